package caches

import (
	"math/big"
	"slices"
	"testing"

	"estuary/api"
)

func TestElapsedIsRoundedUp(t *testing.T) {
	for _, c := range []struct{ ticks, drift, want int }{
		{0, 0, 0}, {0, 1, 0}, {0, 500000, 0},
		{1, 0, 1}, {9, 0, 9}, {1 << 40, 0, 1 << 40},
		{9, 100000, 10}, {10, 100000, 12}, {18, 100000, 20}, {19, 100000, 22},
		{1, 1, 2}, {999999, 1, 1000000}, {1000000, 1, 1000002},
		{1, 500000, 2}, {3, 500000, 6}, {1 << 40, 500000, 1 << 41},
	} {
		if got := Elapsed(c.ticks, c.drift); got != c.want {
			t.Errorf("Elapsed(%d) with Drift %d = %d, want %d", c.ticks, c.drift, got, c.want)
		}
	}
}

func TestElapsedOfGreatNumbers(t *testing.T) {
	for _, drift := range []int{0, 1, 99999, 100000, 333333, 499999, 500000} {
		slowest := big.NewInt(int64(1000000 - drift))
		for _, ticks := range []int{1, 7, 999999, 1<<32 + 1, 1<<40 - 1, 1 << 40} {
			part := new(big.Int).Mul(big.NewInt(int64(ticks)), big.NewInt(1000000))
			want, rest := part.QuoRem(part, slowest, new(big.Int))
			if rest.Sign() > 0 {
				want.Add(want, big.NewInt(1))
			}
			if got := Elapsed(ticks, drift); int64(got) != want.Int64() {
				t.Errorf("Elapsed(%d) with Drift %d = %d, want %d", ticks, drift, got, want)
			}
		}
	}
}

func TestAgeIsBaseAndElapsed(t *testing.T) {
	e := Entry{Base: 3, Since: 5}
	for _, c := range []struct{ reading, drift, want int }{{5, 0, 3}, {6, 0, 4}, {14, 100000, 13}, {15, 100000, 15}} {
		if got := e.Age(c.reading, c.drift); got != c.want {
			t.Errorf("the age at %d with Drift %d = %d, want %d", c.reading, c.drift, got, c.want)
		}
	}
}

func mustHaveKeys(t *testing.T, s *Entries, node int, want ...string) {
	t.Helper()
	if got := s.Keys(node); !slices.Equal(got, want) {
		t.Fatalf("P10: the keys of %d are %q, want %q", node, got, want)
	}
	for _, key := range want {
		if _, has := s.At(Place{node, key}); !has {
			t.Fatalf("P10: no entry of %q at %d", key, node)
		}
	}
	n := 0
	for at := range s.found {
		if at.Node == node {
			n++
		}
	}
	if n != len(want) {
		t.Fatalf("P12: %d has %d entries, want %d", node, n, len(want))
	}
}

func TestLongestUnusedGoesFirst(t *testing.T) {
	for most := 1; most <= api.MaxEach; most++ {
		s := NewEntries(most)
		var want []string
		for b := byte('a'); b <= 'j'; b++ {
			key := string([]byte{b})
			s.Store(Place{1, key}, Entry{Version: int(b)})
			want = append([]string{key}, want...)
			want = want[:min(len(want), most)]
			mustHaveKeys(t, s, 1, want...)
			if e, has := s.At(Place{1, key}); !has || e != (Entry{Version: int(b)}) {
				t.Errorf("the entry of %q is %+v, %v", key, e, has)
			}
		}
	}
}

func TestUseMovesToTheFront(t *testing.T) {
	s := NewEntries(3)
	for _, key := range []string{"a", "b", "c"} {
		s.Store(Place{1, key}, Entry{})
	}
	for _, c := range []struct {
		use  string
		want []string
	}{
		{"c", []string{"c", "b", "a"}},
		{"a", []string{"a", "c", "b"}},
		{"c", []string{"c", "a", "b"}},
		{"z", []string{"c", "a", "b"}}, // none there
	} {
		s.Use(Place{1, c.use})
		mustHaveKeys(t, s, 1, c.want...)
	}
	s.Store(Place{1, "d"}, Entry{})
	mustHaveKeys(t, s, 1, "d", "c", "a")
}

func TestStoreInPlaceTakesNoOthersRoom(t *testing.T) {
	s := NewEntries(2)
	s.Store(Place{1, "a"}, Entry{Version: 1})
	s.Store(Place{1, "b"}, Entry{Version: 1})
	s.Store(Place{1, "a"}, Entry{Version: 2, Present: 1, Value: "v", Base: 3, Since: 4})
	mustHaveKeys(t, s, 1, "a", "b")
	if e, _ := s.At(Place{1, "a"}); e != (Entry{2, 1, "v", 3, 4}) {
		t.Errorf("the entry is %+v", e)
	}
	s.Store(Place{1, "a"}, Entry{Version: 3}) // that which was used last already
	mustHaveKeys(t, s, 1, "a", "b")
}

func TestCachesAreApart(t *testing.T) {
	s := NewEntries(1)
	for node := 1; node < api.MaxNodes; node++ {
		s.Store(Place{node, "k"}, Entry{Version: node})
	}
	s.Store(Place{3, "b"}, Entry{})
	mustHaveKeys(t, s, 2, "k")
	mustHaveKeys(t, s, 3, "b")
	mustHaveKeys(t, s, 4, "k")
	if e, _ := s.At(Place{4, "k"}); e.Version != 4 {
		t.Errorf("the entry of 4 is of the version %d", e.Version)
	}
	if _, has := s.At(Place{1, "b"}); has {
		t.Error("1 has what 3 stored")
	}
}

func TestKeysAreFresh(t *testing.T) {
	s := NewEntries(2)
	s.Store(Place{1, "a"}, Entry{})
	list := s.Keys(1)
	list[0] = "z"
	list = list[:cap(list)]
	clear(list)
	s.Store(Place{1, "b"}, Entry{})
	mustHaveKeys(t, s, 1, "b", "a")
}

func TestClearTakesTheEntriesOfOneCache(t *testing.T) {
	s := NewEntries(2)
	for _, key := range []string{"a", "b"} {
		s.Store(Place{1, key}, Entry{Version: 1})
		s.Store(Place{2, key}, Entry{Version: 2})
	}
	before := s.Keys(1)
	s.Clear(1)
	mustHaveKeys(t, s, 1)
	mustHaveKeys(t, s, 2, "b", "a")
	s.Clear(1) // there are none
	s.Clear(3)
	mustHaveKeys(t, s, 1)
	for _, key := range []string{"c", "a", "d"} { // as much room as at first, and no more
		s.Store(Place{1, key}, Entry{Version: 3})
	}
	mustHaveKeys(t, s, 1, "d", "a")
	mustHaveKeys(t, s, 2, "b", "a")
	if !slices.Equal(before, []string{"b", "a"}) {
		t.Errorf("P2: what came out became %q", before)
	}
}
