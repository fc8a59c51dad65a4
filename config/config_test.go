package config

import (
	"math"
	"slices"
	"testing"

	"estuary/api"
)

func sample() api.Config {
	return api.Config{Parents: []int{-1, 0, 1}, Drift: 100, Budget: 10, Entries: 2, Waiters: 3}
}

func mustBe(t *testing.T, want bool, c api.Config) {
	t.Helper()
	if got := Right(c); got != want {
		t.Errorf("P5: Right(%+v) is %v", c, got)
	}
}

func TestBounds(t *testing.T) {
	for _, r := range []struct {
		field       func(c *api.Config) *int
		least, most int
	}{
		{func(c *api.Config) *int { return &c.Drift }, 0, 500000},
		{func(c *api.Config) *int { return &c.Budget }, 1, 1000000},
		{func(c *api.Config) *int { return &c.Entries }, 1, 4},
		{func(c *api.Config) *int { return &c.Waiters }, 1, 4},
	} {
		c := sample()
		for _, n := range []int{r.least, r.most, (r.least + r.most) / 2} {
			*r.field(&c) = n
			mustBe(t, true, c)
		}
		for _, n := range []int{r.least - 1, r.most + 1, math.MinInt, math.MaxInt, r.least + 1<<32} {
			*r.field(&c) = n
			mustBe(t, false, c)
		}
	}
	mustBe(t, false, api.Config{})
}

func TestParents(t *testing.T) {
	for _, r := range []struct {
		parents []int
		want    bool
	}{
		{nil, false}, {[]int{}, false}, {[]int{-1}, false}, {[]int{0}, false},
		{[]int{-1, 0}, true},
		{[]int{-1, 0, 0, 0, 0, 0}, true},
		{[]int{-1, 0, 1, 2, 3, 4}, true}, // the longest way, and the same backwards
		{[]int{-1, 2, 3, 4, 5, 0}, true},
		{[]int{-1, 0, 1, 1, 3, 3}, true},
		{[]int{-1, 0, 0, 0, 0, 0, 0}, false},
		{make([]int, 10000), false},
		{[]int{0, 0}, false}, {[]int{1, 0}, false}, {[]int{-2, 0}, false}, {[]int{math.MinInt, 0}, false}, // the origin's own
		{[]int{-1, -1}, false}, {[]int{-1, 2}, false}, {[]int{-1, math.MaxInt}, false}, {[]int{-1, math.MinInt}, false}, // no node
		{[]int{-1, 0, 3}, false}, {[]int{-1, 0, 1, 2, 3, 6}, false},
		{[]int{-1, 1}, false}, {[]int{-1, 2, 1}, false}, {[]int{-1, 0, 3, 2}, false}, // rings
		{[]int{-1, 2, 3, 4, 5, 1}, false}, {[]int{-1, 0, 1, 4, 5, 3}, false}, {[]int{-1, 0, 3, 4, 5, 5}, false},
	} {
		c := sample()
		c.Parents = r.parents
		mustBe(t, r.want, c)
	}
}

// rightTree tells what P5 asks of parents, a second way: from the origin downwards.
func rightTree(parents []int) bool {
	reached := map[int]bool{0: true}
	for range parents {
		for node, parent := range parents {
			if node > 0 && reached[parent] {
				reached[node] = true
			}
		}
	}
	return parents[0] == -1 && len(reached) == len(parents)
}

func TestAllParentsOfFourNodes(t *testing.T) {
	c := sample()
	right := 0
	for code := range 7 * 7 * 7 * 7 {
		c.Parents = []int{code%7 - 2, code/7%7 - 2, code/49%7 - 2, code/343 - 2}
		want := rightTree(c.Parents)
		if want {
			right++
		}
		mustBe(t, want, c)
	}
	if right != 16 { // as many trees as four nodes have
		t.Errorf("%d right configurations of four nodes", right)
	}
}

func TestNothingIsWrittenInto(t *testing.T) {
	room := []int{-1, 0, 1, 77, 78, 79}
	c := sample()
	c.Parents = room[:3]
	Right(c)
	d := Copy(c)
	if !slices.Equal(room, []int{-1, 0, 1, 77, 78, 79}) {
		t.Errorf("P2: what was handed in became %v", room)
	}
	room[1] = 5
	if !slices.Equal(d.Parents, []int{-1, 0, 1}) || d.Drift != c.Drift || d.Budget != c.Budget || d.Entries != c.Entries || d.Waiters != c.Waiters {
		t.Errorf("P2: Copy is %+v", d)
	}
}
