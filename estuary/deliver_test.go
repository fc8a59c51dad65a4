package estuary

import (
	"math"
	"slices"
	"testing"

	"estuary/api"
)

// stale is a tier whose node 1 has k of the version 1 with the base 0 since 0, too old at its clock's reading, and a fetch for it with the serial 2, sent at 11, for which the client 2 waits; its messages are lost.
func stale(t *testing.T, drift int) *Tier {
	t.Helper()
	c := sample()
	c.Drift = drift
	x := mustNew(t, c)
	mustWrite(t, x, "k", "v")
	mustAsk(t, x, 1, 1, "k")
	deliverAll(t, x)
	mustClock(t, x, api.OK, 1, 11)
	x.Answers()
	mustAsk(t, x, 1, 2, "k")
	wantNet(t, x, fetchOf(1, 0, "k", 2, 1))
	x.net = nil
	return x
}

func TestDeliverWhereNoMessageIs(t *testing.T) {
	x, like := mustNew(t, sample()), mustNew(t, sample())
	wrong := func(i int) {
		t.Helper()
		if e := x.Deliver(i); e != api.ErrPlace {
			t.Errorf("P9: Deliver(%d) = %d, want ErrPlace", i, e)
		}
		wantUnchanged(t, x, like)
	}
	for _, i := range []int{0, 1, -1, math.MinInt, math.MaxInt} {
		wrong(i)
	}
	for _, y := range []*Tier{x, like} {
		mustAsk(t, y, 1, 1, "a")
		mustAsk(t, y, 2, 2, "b")
	}
	for _, i := range []int{2, 3, -1, math.MinInt, math.MaxInt} {
		wrong(i)
	}
	mustDeliver(t, x, 1)
	mustDeliver(t, x, 1)
}

func TestDeliverTakesOut(t *testing.T) {
	x := mustNew(t, api.Config{Parents: []int{-1, 0, 0, 0}, Budget: 10, Entries: 4, Waiters: 4})
	for node := 1; node <= 3; node++ {
		mustAsk(t, x, node, 0, "k")
	}
	mustDeliver(t, x, 1)
	wantNet(t, x, fetchOf(1, 0, "k", 1, -1), fetchOf(3, 0, "k", 3, -1), absentOf(0, 2, "k", 2, 0, 0))
	mustDeliver(t, x, 2)
	wantNet(t, x, fetchOf(1, 0, "k", 1, -1), fetchOf(3, 0, "k", 3, -1))
	mustDeliver(t, x, 0)
	wantNet(t, x, fetchOf(3, 0, "k", 3, -1), absentOf(0, 1, "k", 1, 0, 0))
}

func TestOriginAnswersWhatIsNow(t *testing.T) {
	x := stale(t, 0)
	deliverThis(t, x, fetchOf(1, 0, "k", 9, 1))
	wantNet(t, x, sameOf(0, 1, "k", 9, 1, 0))
	x.net = nil
	for _, tag := range []int{-1, 0, 2, math.MaxInt32} {
		deliverThis(t, x, fetchOf(1, 0, "k", 9, tag))
		wantNet(t, x, fullOf(0, 1, "k", 9, 1, 0, "v"))
		x.net = nil
	}
	mustWrite(t, x, "k", "w")
	deliverThis(t, x, fetchOf(1, 0, "k", 9, 1))
	wantNet(t, x, fullOf(0, 1, "k", 9, 2, 0, "w"))
	x.net = nil
	x.Remove("k")
	deliverThis(t, x, fetchOf(1, 0, "k", 9, 2))
	deliverThis(t, x, fetchOf(1, 0, "k", 9, 3))
	wantNet(t, x, absentOf(0, 1, "k", 9, 3, 0), sameOf(0, 1, "k", 9, 3, 0))
}

func TestCacheTellsAChild(t *testing.T) {
	x := mustNew(t, sample())
	mustWrite(t, x, "k", "v")
	mustAsk(t, x, 1, 1, "k")
	deliverAll(t, x)
	mustClock(t, x, api.OK, 1, 10)
	mustWrite(t, x, "k", "w") // the cache does not know
	for _, tag := range []int{-1, 0, 2} {
		deliverThis(t, x, fetchOf(2, 1, "k", 9, tag))
		wantNet(t, x, fullOf(1, 2, "k", 9, 1, 10, "v"))
		x.net = nil
	}
	deliverThis(t, x, fetchOf(2, 1, "k", 9, 1))
	wantNet(t, x, sameOf(1, 2, "k", 9, 1, 10))
	x.net = nil
	mustClock(t, x, api.OK, 1, 11) // not fresh any more: the child must wait
	deliverThis(t, x, fetchOf(2, 1, "k", 9, 1))
	wantNet(t, x, fetchOf(1, 0, "k", 2, 1))
	deliverAll(t, x)
	wantEntries(t, x, 1, entryOf("k", 2, "w", 0))
}

// TestWaitingChildrenHaveTheirTags: each is answered by its own.
func TestWaitingChildrenHaveTheirTags(t *testing.T) {
	x := mustNew(t, api.Config{Parents: []int{-1, 0, 1, 1}, Budget: 10, Entries: 1, Waiters: 3})
	mustWrite(t, x, "k", "v")
	deliverThis(t, x, fetchOf(2, 1, "k", 7, 1))
	deliverThis(t, x, fetchOf(3, 1, "k", 8, -1))
	deliverThis(t, x, fetchOf(2, 1, "k", 7, 1)) // twice
	wantNet(t, x, fetchOf(1, 0, "k", 1, -1))
	deliverThis(t, x, fetchOf(3, 1, "k", 9, -1))
	wantNet(t, x, fetchOf(1, 0, "k", 1, -1), refuseOf(1, 3, "k", 9))
	x.net = x.net[:1]
	mustDeliver(t, x, 0)
	mustDeliver(t, x, 0)
	wantNet(t, x, sameOf(1, 2, "k", 7, 1, 0), fullOf(1, 3, "k", 8, 1, 0, "v"), sameOf(1, 2, "k", 7, 1, 0))
}

func TestAnswersToOtherFetchesAreLetGo(t *testing.T) {
	x, like := stale(t, 0), stale(t, 0)
	for _, serial := range []int{0, 1, 3, math.MaxUint32} {
		for _, m := range []api.Message{
			fullOf(0, 1, "k", serial, 2, 0, "w"),
			sameOf(0, 1, "k", serial, 1, 0),
			sameOf(0, 1, "k", serial, 5, 0),
			refuseOf(0, 1, "k", serial),
		} {
			deliverThis(t, x, m)
		}
	}
	for _, m := range []api.Message{ // the serial is right, but not the key or the node
		fullOf(0, 1, "b", 2, 1, 0, "w"), sameOf(0, 1, "b", 2, 1, 0), refuseOf(0, 1, "b", 2),
		fullOf(0, 2, "k", 2, 1, 0, "w"), sameOf(0, 2, "k", 2, 1, 0), refuseOf(0, 2, "k", 2),
	} {
		deliverThis(t, x, m)
	}
	x.net = nil
	wantUnchanged(t, x, like)
	deliverThis(t, x, fullOf(0, 1, "k", 2, 2, 0, "w"))
	wantAnswers(t, x, toldOf(1, 2, 2, "w", 0))
	deliverThis(t, x, fullOf(0, 1, "k", 2, 3, 0, "x")) // a second answer to a fetch that is over
	deliverThis(t, x, refuseOf(0, 1, "k", 2))
	wantAnswers(t, x)
	wantEntries(t, x, 1, entryOf("k", 2, "w", 0))
}

func TestRefuse(t *testing.T) {
	c := sample()
	c.Waiters = 4
	x := mustNew(t, c)
	mustAsk(t, x, 1, 1, "b") // of another key: stays
	mustAsk(t, x, 1, 2, "k")
	deliverThis(t, x, fetchOf(2, 1, "k", 9, -1))
	mustAsk(t, x, 1, 3, "k")
	x.net = nil
	deliverThis(t, x, refuseOf(0, 1, "k", 2))
	wantAnswers(t, x, refusedOf(1, 2), refusedOf(1, 3))
	wantNet(t, x, refuseOf(1, 2, "k", 9))
	wantEntries(t, x, 1)
	x.net = nil
	mustAsk(t, x, 1, 4, "k") // the fetch is over: there is another
	mustAsk(t, x, 1, 5, "b")
	wantNet(t, x, fetchOf(1, 0, "k", 3, -1))
}

func TestRefuseLeavesTheEntry(t *testing.T) {
	x := stale(t, 0)
	deliverThis(t, x, refuseOf(0, 1, "k", 2))
	wantAnswers(t, x, refusedOf(1, 2))
	wantEntries(t, x, 1, entryOf("k", 1, "v", 11))
}

func TestSameOfNoEntry(t *testing.T) {
	c := sample()
	c.Entries, c.Waiters = 1, 4
	x := mustNew(t, c)
	mustWrite(t, x, "a", "v")
	mustWrite(t, x, "b", "w")
	mustAsk(t, x, 1, 1, "a")
	deliverAll(t, x)
	mustClock(t, x, api.OK, 1, 11)
	mustAsk(t, x, 1, 2, "a")
	deliverThis(t, x, fetchOf(2, 1, "a", 9, 1))
	mustAsk(t, x, 1, 3, "a")
	mustAsk(t, x, 1, 4, "b")
	wantNet(t, x, fetchOf(1, 0, "a", 2, 1), fetchOf(1, 0, "b", 3, -1))
	mustDeliver(t, x, 1)
	mustDeliver(t, x, 1) // b takes a's room
	wantEntries(t, x, 1, entryOf("b", 1, "w", 0))
	x.Answers()
	mustDeliver(t, x, 0)
	mustClock(t, x, api.OK, 1, 15)
	mustDeliver(t, x, 0)
	wantNet(t, x, fetchOf(1, 0, "a", 4, -1))
	wantAnswers(t, x)
	deliverThis(t, x, fullOf(0, 1, "a", 2, 1, 0, "v")) // the old fetch is no more
	wantEntries(t, x, 1, entryOf("b", 1, "w", 4))
	mustAsk(t, x, 1, 5, "a") // the same wait: with this one as many as may
	mustAsk(t, x, 1, 6, "a")
	wantAnswers(t, x, refusedOf(1, 6))
	mustDeliver(t, x, 0)
	mustClock(t, x, api.OK, 1, 20)
	mustDeliver(t, x, 0)
	wantAnswers(t, x, toldOf(1, 2, 1, "v", 5), toldOf(1, 3, 1, "v", 5), toldOf(1, 5, 1, "v", 5)) // sent at 15
	wantNet(t, x, sameOf(1, 2, "a", 9, 1, 5))
	wantEntries(t, x, 1, entryOf("a", 1, "v", 5))
}

func TestSameOfAnotherVersion(t *testing.T) {
	for _, version := range []int{0, 2} {
		x := stale(t, 0)
		mustClock(t, x, api.OK, 1, 12)
		deliverThis(t, x, sameOf(0, 1, "k", 2, version, 0))
		wantAnswers(t, x)
		wantNet(t, x, fetchOf(1, 0, "k", 3, -1))
		wantEntries(t, x, 1, entryOf("k", 1, "v", 12))
		deliverAll(t, x)
		wantAnswers(t, x, toldOf(1, 2, 1, "v", 0))
	}
}

// TestSameVersion: an entry becomes as young as the answer says, unless it is younger. The clock goes on to 20 while the fetch, sent at 11, is under way: with Drift 100000 that is up to 10, and the entry is up to 23 old.
func TestSameVersion(t *testing.T) {
	for _, c := range []struct{ age, now, later int }{
		{0, 10, 12},  // less
		{12, 22, 24}, // one less
		{13, 23, 25}, // as much: ages go on from here
		{14, 23, 24}, // more: the entry stays, and ages go on from where they did
		{1 << 40, 23, 24},
	} {
		for _, m := range []api.Message{sameOf(0, 1, "k", 2, 1, c.age), fullOf(0, 1, "k", 2, 1, c.age, "v")} {
			x := stale(t, 100000)
			mustClock(t, x, api.OK, 1, 20)
			wantEntries(t, x, 1, entryOf("k", 1, "v", 23))
			deliverThis(t, x, m)
			wantEntries(t, x, 1, entryOf("k", 1, "v", c.now))
			if c.now <= 10 {
				wantAnswers(t, x, toldOf(1, 2, 1, "v", c.now))
			} else {
				wantAnswers(t, x, refusedOf(1, 2))
			}
			wantNet(t, x)
			mustClock(t, x, api.OK, 1, 21)
			wantEntries(t, x, 1, entryOf("k", 1, "v", c.later))
			mustAsk(t, x, 1, 3, "k") // the fetch is over
			wantNet(t, x, fetchOf(1, 0, "k", 3, 1))
		}
	}
}

// TestSameBaseAgain: SINCE is now even if the base is the same number as before.
func TestSameBaseAgain(t *testing.T) {
	x := stale(t, 0)
	deliverThis(t, x, sameOf(0, 1, "k", 2, 1, 0)) // the base was 0 already
	wantAnswers(t, x, toldOf(1, 2, 1, "v", 0))
	mustClock(t, x, api.OK, 1, 21)
	mustAsk(t, x, 1, 3, "k")
	wantAnswers(t, x, toldOf(1, 3, 1, "v", 10))
}

func TestFullOfAnotherVersion(t *testing.T) {
	x := stale(t, 0)
	mustClock(t, x, api.OK, 1, 14)
	deliverThis(t, x, fullOf(0, 1, "k", 2, 5, 4, "w"))
	wantAnswers(t, x, toldOf(1, 2, 5, "w", 7)) // 4, and 3 since it was sent
	mustClock(t, x, api.OK, 1, 15)
	wantEntries(t, x, 1, entryOf("k", 5, "w", 8))

	x = stale(t, 0)
	deliverThis(t, x, absentOf(0, 1, "k", 2, 5, 0))
	wantEntries(t, x, 1, api.Entry{Key: "k", Version: 5})
	wantAnswers(t, x, api.Answer{Node: 1, Id: 2, Kind: api.Told, Version: 5})

	x = stale(t, 0)
	deliverThis(t, x, fullOf(0, 1, "k", 2, 2, 50, "w")) // older than the entry, but of a later version
	wantEntries(t, x, 1, entryOf("k", 2, "w", 50))
	wantAnswers(t, x, refusedOf(1, 2))

	x = stale(t, 0)
	deliverThis(t, x, fullOf(0, 1, "k", 2, 0, 0, "w")) // a lesser version: the entry stays
	wantEntries(t, x, 1, entryOf("k", 1, "v", 11))
	wantAnswers(t, x, refusedOf(1, 2))
	mustAsk(t, x, 1, 3, "k")
	wantNet(t, x, fetchOf(1, 0, "k", 3, 1))
}

// TestGreaterVersionTells: those who wait are told by the entry that stays, if it is fresh.
func TestGreaterVersionTells(t *testing.T) {
	x := mustNew(t, sample())
	mustAsk(t, x, 1, 1, "k")
	deliverThis(t, x, fullOf(0, 1, "k", 1, 5, 2, "w"))
	wantAnswers(t, x, toldOf(1, 1, 5, "w", 2))
	x.net = nil
	mustClock(t, x, api.OK, 1, 9)
	mustAsk(t, x, 1, 2, "k")
	x.config.Budget = 12 // so that the entry is fresh when the answer comes
	deliverThis(t, x, fullOf(0, 1, "k", 2, 4, 0, "v"))
	wantAnswers(t, x, toldOf(1, 2, 5, "w", 11))
	deliverThis(t, x, fullOf(0, 1, "k", 2, 4, 0, "v"))
	wantAnswers(t, x)
}

func TestNotFreshWhenItComes(t *testing.T) {
	for _, c := range []struct {
		reading int
		fresh   bool
	}{{10, true}, {11, false}} {
		x := mustNew(t, sample())
		mustWrite(t, x, "k", "v")
		mustAsk(t, x, 1, 1, "k")
		deliverThis(t, x, fetchOf(2, 1, "k", 9, -1))
		mustDeliver(t, x, 0)
		mustClock(t, x, api.OK, 1, c.reading)
		mustDeliver(t, x, 0)
		wantEntries(t, x, 1, entryOf("k", 1, "v", c.reading)) // it is stored all the same
		if c.fresh {
			wantAnswers(t, x, toldOf(1, 1, 1, "v", 10))
			wantNet(t, x, fullOf(1, 2, "k", 9, 1, 10, "v"))
		} else {
			wantAnswers(t, x, refusedOf(1, 1))
			wantNet(t, x, refuseOf(1, 2, "k", 9))
		}
	}
}

// TestAgesAddUp: what a child has is as old as its parent said, and as its own fetch took.
func TestAgesAddUp(t *testing.T) {
	x := mustNew(t, sample())
	mustWrite(t, x, "k", "v")
	mustAsk(t, x, 1, 1, "k")
	deliverAll(t, x)
	mustClock(t, x, api.OK, 1, 6)
	mustAsk(t, x, 2, 2, "k")
	mustDeliver(t, x, 0)
	wantNet(t, x, fullOf(1, 2, "k", 2, 1, 6, "v"))
	mustClock(t, x, api.OK, 2, 5)
	mustDeliver(t, x, 0)
	wantAnswers(t, x, toldOf(1, 1, 1, "v", 0), refusedOf(2, 2))
	wantEntries(t, x, 2, entryOf("k", 1, "v", 11))
	mustAsk(t, x, 2, 3, "k")
	deliverAll(t, x)
	wantAnswers(t, x, toldOf(2, 3, 1, "v", 6))
}

// fill lets node 1 of a tier get keys, one after the other.
func fill(t *testing.T, x *Tier, keys ...string) {
	t.Helper()
	for _, key := range keys {
		mustAsk(t, x, 1, 0, key)
		deliverAll(t, x)
	}
}

func wantKeys(t *testing.T, x *Tier, node int, want ...string) {
	t.Helper()
	list, e := x.Entries(node)
	var got []string
	for _, entry := range list {
		got = append(got, entry.Key)
	}
	if e != api.OK || !slices.Equal(got, want) {
		t.Fatalf("P10: Entries(%d) are of %q, %d, want %q", node, got, e, want)
	}
}

func TestOneEntryMoreThanMayBe(t *testing.T) {
	c := sample()
	c.Entries, c.Waiters = 3, 4
	x := mustNew(t, c)
	fill(t, x, "a", "b", "c")
	wantKeys(t, x, 1, "c", "b", "a")
	wantKeys(t, x, 2)
	fill(t, x, "a") // a client is told
	wantKeys(t, x, 1, "a", "c", "b")
	mustAsk(t, x, 2, 1, "c") // a child is told
	deliverAll(t, x)
	wantKeys(t, x, 1, "c", "a", "b")
	wantKeys(t, x, 2, "c")
	fill(t, x, "a")
	mustAsk(t, x, 2, 1, "c") // by the child's own entry: the parent's is not used
	deliverAll(t, x)
	wantKeys(t, x, 1, "a", "c", "b")
	fill(t, x, "d")
	wantKeys(t, x, 1, "d", "a", "c")
	fill(t, x, "b")
	wantKeys(t, x, 1, "b", "d", "a")
}

func TestWhatIsNoUse(t *testing.T) {
	c := sample()
	c.Waiters = 1
	x := mustNew(t, c)
	fill(t, x, "a", "b")
	mustClock(t, x, api.OK, 1, 11)
	mustAsk(t, x, 1, 1, "a") // too old to answer
	wantKeys(t, x, 1, "b", "a")
	mustAsk(t, x, 1, 2, "a") // no room to wait
	wantKeys(t, x, 1, "b", "a")
	deliverThis(t, x, fetchOf(2, 1, "a", 9, -1))
	wantKeys(t, x, 1, "b", "a")
	x.net = nil
	deliverThis(t, x, refuseOf(0, 1, "a", 3))
	wantKeys(t, x, 1, "b", "a")
	mustAsk(t, x, 1, 3, "a")
	mustDeliver(t, x, 0)
	deliverThis(t, x, sameOf(0, 1, "a", 99, 0, 0)) // let go
	wantKeys(t, x, 1, "b", "a")
	mustDeliver(t, x, 0) // a Same
	wantKeys(t, x, 1, "a", "b")
}

// TestUsedEvenIfNotFresh: whatever an answer brings, its entry is used.
func TestUsedEvenIfNotFresh(t *testing.T) {
	for _, m := range []api.Message{
		sameOf(0, 1, "a", 3, 1, 50),
		fullOf(0, 1, "a", 3, 1, 50, "v"),
		fullOf(0, 1, "a", 3, 0, 0, "v"),
		fullOf(0, 1, "a", 3, 2, 50, "v"),
	} {
		x := mustNew(t, sample())
		mustWrite(t, x, "a", "v")
		fill(t, x, "a", "b")
		mustClock(t, x, api.OK, 1, 11)
		x.Answers()
		mustAsk(t, x, 1, 1, "a")
		deliverThis(t, x, m)
		wantAnswers(t, x, refusedOf(1, 1))
		wantKeys(t, x, 1, "a", "b")
	}
}

func TestReplacedEntryTakesNoOthersRoom(t *testing.T) {
	x := mustNew(t, sample())
	fill(t, x, "a", "b")
	mustWrite(t, x, "a", "v")
	mustClock(t, x, api.OK, 1, 11)
	fill(t, x, "a")
	wantEntries(t, x, 1, entryOf("a", 1, "v", 0), api.Entry{Key: "b", Age: 11})
	mustWrite(t, x, "a", "w")
	mustClock(t, x, api.OK, 1, 22)
	fill(t, x, "a") // that which was used last already
	wantEntries(t, x, 1, entryOf("a", 2, "w", 0), api.Entry{Key: "b", Age: 22})
}
