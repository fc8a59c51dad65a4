package estuary

import (
	"math"
	"strings"
	"testing"

	"estuary/api"
)

// star has the caches below the origin, but for node 3, which is below node 1.
func star(waiters int) api.Config {
	return api.Config{Parents: []int{-1, 0, 0, 1}, Drift: 0, Budget: 10, Entries: 4, Waiters: waiters}
}

func TestExample(t *testing.T) {
	x := mustNew(t, sample())
	mustWrite(t, x, "k", "v")
	wantNet(t, x)
	mustAsk(t, x, 2, 7, "k")
	wantNet(t, x, fetchOf(2, 1, "k", 1, -1))
	mustDeliver(t, x, 0)
	wantNet(t, x, fetchOf(1, 0, "k", 2, -1))
	mustDeliver(t, x, 0)
	wantNet(t, x, fullOf(0, 1, "k", 2, 1, 0, "v"))
	mustClock(t, x, api.OK, 1, 3)
	mustDeliver(t, x, 0)
	wantEntries(t, x, 1, entryOf("k", 1, "v", 3))
	wantNet(t, x, fullOf(1, 2, "k", 1, 1, 3, "v"))
	mustClock(t, x, api.OK, 2, 5)
	wantAnswers(t, x)
	mustDeliver(t, x, 0)
	wantNet(t, x)
	wantEntries(t, x, 2, entryOf("k", 1, "v", 8))
	wantAnswers(t, x, toldOf(2, 7, 1, "v", 8))
	mustClock(t, x, api.OK, 2, 7)
	mustAsk(t, x, 2, 8, "k")
	wantAnswers(t, x, toldOf(2, 8, 1, "v", 10)) // just the budget
	wantNet(t, x)
	mustClock(t, x, api.OK, 2, 8)
	mustAsk(t, x, 2, 9, "k") // one more
	wantAnswers(t, x)
	wantNet(t, x, fetchOf(2, 1, "k", 3, 1))
	wantEntries(t, x, 2, entryOf("k", 1, "v", 11))
}

func TestAskWrongly(t *testing.T) {
	x, like := mustNew(t, sample()), mustNew(t, sample())
	for _, y := range []*Tier{x, like} {
		mustWrite(t, y, "k", "v")
		mustAsk(t, y, 1, 1, "k")
		mustAsk(t, y, 2, 1, "k")
	}
	noKeys := []string{"", "abcde", "K", "k ", " ", "\x00", "\xff", "é", "k\n", "a1", strings.Repeat("k", 1000)}
	for _, node := range []int{0, -1, 3, 5, 6, math.MinInt, math.MaxInt} {
		for _, key := range append(noKeys, "k") { // the node's error is named first
			if e := x.Ask(node, 1, key); e != api.ErrNode {
				t.Errorf("P7: Ask(%d, 1, %q) = %d, want ErrNode", node, key, e)
			}
		}
	}
	for _, key := range noKeys {
		if e := x.Ask(1, 1, key); e != api.ErrKey {
			t.Errorf("P7: Ask(1, 1, %q) = %d, want ErrKey", key, e)
		}
	}
	wantUnchanged(t, x, like)
}

func TestAnyIdMayAsk(t *testing.T) {
	x := mustNew(t, sample())
	mustWrite(t, x, "zz", "")
	ids := []int{0, -1, math.MinInt, math.MaxInt}
	for _, id := range ids {
		mustAsk(t, x, 1, id, "zz")
		deliverAll(t, x)
		wantAnswers(t, x, toldOf(1, id, 1, "", 0))
	}
}

func TestAskForWhatIsNotPresent(t *testing.T) {
	x := mustNew(t, sample())
	mustAsk(t, x, 2, 1, "k") // never written
	mustDeliver(t, x, 0)
	mustDeliver(t, x, 0)
	wantNet(t, x, absentOf(0, 1, "k", 2, 0, 0))
	mustDeliver(t, x, 0)
	wantNet(t, x, absentOf(1, 2, "k", 1, 0, 0))
	mustDeliver(t, x, 0)
	wantAnswers(t, x, api.Answer{Node: 2, Id: 1, Kind: api.Told})
	wantEntries(t, x, 1, api.Entry{Key: "k"})
	wantEntries(t, x, 2, api.Entry{Key: "k"})
	mustClock(t, x, api.OK, 1, 11)
	mustAsk(t, x, 1, 2, "k") // its version, 0, is a tag
	wantNet(t, x, fetchOf(1, 0, "k", 3, 0))
	mustDeliver(t, x, 0)
	wantNet(t, x, sameOf(0, 1, "k", 3, 0, 0))
	mustDeliver(t, x, 0)
	wantAnswers(t, x, api.Answer{Node: 1, Id: 2, Kind: api.Told})
	mustWrite(t, x, "k", "v")
	x.Remove("k")
	mustClock(t, x, api.OK, 1, 22)
	mustAsk(t, x, 1, 3, "k")
	mustDeliver(t, x, 0)
	wantNet(t, x, absentOf(0, 1, "k", 4, 2, 0))
	mustDeliver(t, x, 0)
	wantAnswers(t, x, api.Answer{Node: 1, Id: 3, Kind: api.Told, Version: 2})
	wantEntries(t, x, 1, api.Entry{Key: "k", Version: 2})
}

func TestFreshUpToTheBudget(t *testing.T) {
	for _, drift := range []int{0, 1, 100000, 500000} {
		for _, budget := range []int{1, 2, 10, 1000000} {
			c := sample()
			c.Drift, c.Budget = drift, budget
			x := mustNew(t, c)
			mustWrite(t, x, "k", "v")
			mustAsk(t, x, 1, 1, "k")
			deliverAll(t, x)
			x.Answers()
			last := budget * (1000000 - drift) / 1000000 // the last reading at which it is fresh
			age := (last*1000000 + 999999 - drift) / (1000000 - drift)
			mustClock(t, x, api.OK, 1, last)
			mustAsk(t, x, 1, 2, "k")
			wantAnswers(t, x, toldOf(1, 2, 1, "v", age))
			wantNet(t, x)
			mustClock(t, x, api.OK, 1, last+1)
			mustAsk(t, x, 1, 3, "k")
			wantAnswers(t, x)
			wantNet(t, x, fetchOf(1, 0, "k", 2, 1))
		}
	}
}

func TestAgesWithDrift(t *testing.T) {
	c := sample()
	c.Drift, c.Budget = 100000, 22
	x := mustNew(t, c)
	mustWrite(t, x, "k", "v")
	mustClock(t, x, api.OK, 1, 100)
	mustAsk(t, x, 1, 1, "k")
	mustDeliver(t, x, 0)
	mustClock(t, x, api.OK, 1, 110)
	mustDeliver(t, x, 0)
	wantAnswers(t, x, toldOf(1, 1, 1, "v", 12)) // 10 ticks of the clock are up to 12
	for _, c := range []struct{ reading, age int }{{110, 12}, {111, 14}, {119, 22}} {
		mustClock(t, x, api.OK, 1, c.reading)
		mustAsk(t, x, 1, 2, "k")
		wantAnswers(t, x, toldOf(1, 2, 1, "v", c.age))
	}
	mustClock(t, x, api.OK, 1, 120)
	mustAsk(t, x, 1, 3, "k")
	wantAnswers(t, x)
	wantEntries(t, x, 1, entryOf("k", 1, "v", 24))
}

func TestGreatestReadings(t *testing.T) {
	c := sample()
	c.Drift, c.Budget = 500000, 1000000
	x := mustNew(t, c)
	mustWrite(t, x, "k", "v")
	mustAsk(t, x, 2, 1, "k")
	mustDeliver(t, x, 0)
	mustDeliver(t, x, 0)
	mustDeliver(t, x, 0)
	mustClock(t, x, api.OK, 2, 1<<40)
	mustDeliver(t, x, 0)
	wantAnswers(t, x, refusedOf(2, 1))
	wantEntries(t, x, 2, entryOf("k", 1, "v", 1<<41))
	mustClock(t, x, api.OK, 1, 1<<40)
	wantEntries(t, x, 1, entryOf("k", 1, "v", 1<<41))
	mustAsk(t, x, 2, 2, "k")
	deliverAll(t, x)
	wantAnswers(t, x, toldOf(2, 2, 1, "v", 0))
}

func TestWaitForOneFetch(t *testing.T) {
	x := mustNew(t, star(4))
	mustWrite(t, x, "k", "v")
	mustAsk(t, x, 1, 10, "k")
	mustAsk(t, x, 3, 11, "k")
	mustAsk(t, x, 1, 12, "k")
	wantNet(t, x, fetchOf(1, 0, "k", 1, -1), fetchOf(3, 1, "k", 2, -1))
	mustDeliver(t, x, 1) // a child waits, too
	wantNet(t, x, fetchOf(1, 0, "k", 1, -1))
	mustAsk(t, x, 1, 10, "k") // the same client once more
	wantNet(t, x, fetchOf(1, 0, "k", 1, -1))
	wantAnswers(t, x)
	mustDeliver(t, x, 0)
	mustDeliver(t, x, 0)
	wantAnswers(t, x, toldOf(1, 10, 1, "v", 0), toldOf(1, 12, 1, "v", 0), toldOf(1, 10, 1, "v", 0))
	wantNet(t, x, fullOf(1, 3, "k", 2, 1, 0, "v"))
	mustDeliver(t, x, 0)
	wantAnswers(t, x, toldOf(3, 11, 1, "v", 0))
}

func TestChildrenWaitInTheirOrder(t *testing.T) {
	x := mustNew(t, api.Config{Parents: []int{-1, 0, 1, 1, 1}, Budget: 10, Entries: 1, Waiters: 3})
	mustWrite(t, x, "k", "v")
	for _, node := range []int{4, 2, 3} {
		mustAsk(t, x, node, node, "k")
	}
	mustDeliver(t, x, 1) // 2 comes first
	mustDeliver(t, x, 1)
	mustDeliver(t, x, 0)
	wantNet(t, x, fetchOf(1, 0, "k", 4, -1))
	mustDeliver(t, x, 0)
	mustDeliver(t, x, 0)
	wantNet(t, x, fullOf(1, 2, "k", 2, 1, 0, "v"), fullOf(1, 3, "k", 3, 1, 0, "v"), fullOf(1, 4, "k", 1, 1, 0, "v"))
}

func TestAsManyWaitersAsMayBe(t *testing.T) {
	for waiters := 1; waiters <= api.MaxEach; waiters++ {
		x := mustNew(t, star(waiters))
		keys := []string{"a", "b", "a", "c"}
		for i := range waiters {
			mustAsk(t, x, 1, i, keys[i])
		}
		wantAnswers(t, x)
		sent := len(x.Net())
		mustAsk(t, x, 1, 50, "a") // there is a fetch for it, but no room
		mustAsk(t, x, 1, 51, "z")
		wantAnswers(t, x, refusedOf(1, 50), refusedOf(1, 51))
		if len(x.Net()) != sent {
			t.Errorf("P8: one who is refused sends %+v", x.Net()[sent:])
		}
		mustAsk(t, x, 3, 52, "a") // a child of it
		mustDeliver(t, x, sent)
		wantAnswers(t, x)
		mustDeliver(t, x, sent) // the Refuse
		wantAnswers(t, x, refusedOf(3, 52))
		mustAsk(t, x, 2, 53, "a") // at another cache there is room
		wantAnswers(t, x)
		mustDeliver(t, x, 0)
		mustDeliver(t, x, len(x.Net())-1) // the fetch for a is over
		if n := len(x.Answers()); n != 1+waiters/3 {
			t.Errorf("P9: %d are told, want %d", n, 1+waiters/3)
		}
		mustAsk(t, x, 1, 54, "z")
		wantAnswers(t, x)
	}
}

func TestSerialsAreOfTheWholeTier(t *testing.T) {
	x := mustNew(t, star(4))
	mustAsk(t, x, 2, 1, "b")
	mustAsk(t, x, 1, 2, "a")
	mustAsk(t, x, 1, 3, "b")
	mustAsk(t, x, 3, 4, "a")
	wantNet(t, x, fetchOf(2, 0, "b", 1, -1), fetchOf(1, 0, "a", 2, -1), fetchOf(1, 0, "b", 3, -1), fetchOf(3, 1, "a", 4, -1))
	deliverAll(t, x)
	mustClock(t, x, api.OK, 2, 11)
	mustAsk(t, x, 2, 5, "b")
	wantNet(t, x, fetchOf(2, 0, "b", 5, 0))
	y := mustNew(t, star(4))
	mustAsk(t, y, 1, 1, "a")
	wantNet(t, y, fetchOf(1, 0, "a", 1, -1))
}
