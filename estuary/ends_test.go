package estuary

import (
	"math"
	"strings"
	"testing"

	"estuary/api"
)

func mustTimeout(t *testing.T, x *Tier, node int, key string) {
	t.Helper()
	if e := x.Timeout(node, key); e != api.OK {
		t.Fatalf("P11: Timeout(%d, %q) = %d", node, key, e)
	}
}

func mustCrash(t *testing.T, x *Tier, node int) {
	t.Helper()
	if e := x.Crash(node); e != api.OK {
		t.Fatalf("P11: Crash(%d) = %d", node, e)
	}
}

func TestTimeoutWrongly(t *testing.T) {
	x, like := busy(t), busy(t)
	noKeys := []string{"", "abcde", "A", "a ", " ", "\x00", "\xff", "é", "a\n", "a1", strings.Repeat("a", 1000)}
	for _, node := range []int{0, -1, 3, 5, 6, math.MinInt, math.MaxInt} {
		for _, key := range append(noKeys, "a", "z") { // the node's error is named first
			if e := x.Timeout(node, key); e != api.ErrNode {
				t.Errorf("P11: Timeout(%d, %q) = %d, want ErrNode", node, key, e)
			}
		}
	}
	for _, key := range noKeys {
		if e := x.Timeout(1, key); e != api.ErrKey {
			t.Errorf("P11: Timeout(1, %q) = %d, want ErrKey", key, e)
		}
	}
	for _, key := range []string{"z", "aa", "c"} { // who asked for c had no room to wait
		if e := x.Timeout(1, key); e != api.ErrNone {
			t.Errorf("P11: Timeout(1, %q) = %d, want ErrNone", key, e)
		}
	}
	wantUnchanged(t, x, like)
}

func TestTimeoutOfNoFetch(t *testing.T) {
	x := mustNew(t, sample())
	none := func(node int, key string) {
		t.Helper()
		if e := x.Timeout(node, key); e != api.ErrNone {
			t.Errorf("P11: Timeout(%d, %q) = %d, want ErrNone", node, key, e)
		}
	}
	none(1, "k")
	mustAsk(t, x, 2, 1, "k")
	none(1, "k") // the fetch is another cache's
	none(2, "b")
	mustTimeout(t, x, 2, "k")
	none(2, "k") // it is over
	mustAsk(t, x, 1, 2, "k")
	deliverAll(t, x)
	none(1, "k") // it is answered
	mustClock(t, x, api.OK, 1, 11)
	none(1, "k") // the entry is not fresh, but nobody has asked
	mustAsk(t, x, 1, 3, "k")
	mustTimeout(t, x, 1, "k")
	wantEntries(t, x, 1, api.Entry{Key: "k", Age: 11})
}

func TestTimeoutRefusesInTheirOrder(t *testing.T) {
	x := mustNew(t, api.Config{Parents: []int{-1, 0, 1, 1}, Budget: 10, Entries: 4, Waiters: 4})
	mustAsk(t, x, 3, 30, "k")
	mustAsk(t, x, 2, 20, "k")
	mustAsk(t, x, 1, 11, "k")
	mustDeliver(t, x, 1) // node 2
	mustAsk(t, x, 1, 10, "k")
	mustDeliver(t, x, 0) // node 3
	wantNet(t, x, fetchOf(1, 0, "k", 3, -1))
	mustTimeout(t, x, 1, "k")
	wantAnswers(t, x, refusedOf(1, 11), refusedOf(1, 10))
	wantNet(t, x, fetchOf(1, 0, "k", 3, -1), refuseOf(1, 2, "k", 2), refuseOf(1, 3, "k", 1))
	mustDeliver(t, x, 1)
	wantAnswers(t, x, refusedOf(2, 20))
	mustDeliver(t, x, 1)
	wantAnswers(t, x, refusedOf(3, 30))
	deliverAll(t, x)
	wantAnswers(t, x)
	for node := 1; node <= 3; node++ {
		wantEntries(t, x, node)
	}
}

func TestTimeoutEndsOneFetch(t *testing.T) {
	x := mustNew(t, star(4))
	mustAsk(t, x, 1, 1, "a")
	mustAsk(t, x, 1, 2, "b")
	mustAsk(t, x, 2, 3, "a")
	mustAsk(t, x, 3, 4, "a")
	sent := x.Net()
	mustTimeout(t, x, 1, "a")
	wantAnswers(t, x, refusedOf(1, 1))
	wantNet(t, x, sent...) // what is under way stays
	mustDeliver(t, x, 1)
	mustDeliver(t, x, 1)
	deliverAll(t, x)
	wantAnswers(t, x, api.Answer{Node: 1, Id: 2, Kind: api.Told}, api.Answer{Node: 2, Id: 3, Kind: api.Told}, api.Answer{Node: 3, Id: 4, Kind: api.Told})
}

func TestRoomBehindATimeout(t *testing.T) {
	for waiters := 1; waiters <= api.MaxEach; waiters++ {
		x := mustNew(t, star(waiters))
		for id := range waiters {
			mustAsk(t, x, 1, id, "a")
		}
		mustAsk(t, x, 1, 50, "b")
		wantAnswers(t, x, refusedOf(1, 50))
		mustTimeout(t, x, 1, "a")
		if n := len(x.Answers()); n != waiters {
			t.Errorf("P11: %d were refused, want %d", n, waiters)
		}
		x.net = nil
		for id := range waiters {
			mustAsk(t, x, 1, id, "b")
		}
		wantAnswers(t, x)
		wantNet(t, x, fetchOf(1, 0, "b", 2, -1))
		mustAsk(t, x, 1, 51, "b")
		wantAnswers(t, x, refusedOf(1, 51))
	}
}

// TestTimeoutLeavesTheEntry: neither its age nor when it was used is another.
func TestTimeoutLeavesTheEntry(t *testing.T) {
	x := mustNew(t, sample())
	mustWrite(t, x, "a", "v")
	fill(t, x, "a", "b")
	x.Answers()
	mustClock(t, x, api.OK, 1, 11)
	mustAsk(t, x, 1, 1, "a")
	mustTimeout(t, x, 1, "a")
	wantAnswers(t, x, refusedOf(1, 1))
	wantEntries(t, x, 1, api.Entry{Key: "b", Age: 11}, entryOf("a", 1, "v", 11))
	x.net = nil
	mustAsk(t, x, 1, 2, "a") // with the entry's tag, and a serial of its own
	wantNet(t, x, fetchOf(1, 0, "a", 4, 1))
}

// TestAnswerBehindATimeout: the answers of each kind to a fetch that is over are let go, before and behind a new fetch for the key.
func TestAnswerBehindATimeout(t *testing.T) {
	for _, m := range []api.Message{
		fullOf(0, 1, "k", 2, 2, 0, "w"), sameOf(0, 1, "k", 2, 1, 0), sameOf(0, 1, "k", 2, 7, 0), refuseOf(0, 1, "k", 2),
	} {
		x := stale(t, 0)
		mustTimeout(t, x, 1, "k")
		wantAnswers(t, x, refusedOf(1, 2))
		deliverThis(t, x, m)
		wantAnswers(t, x)
		wantNet(t, x)
		wantEntries(t, x, 1, entryOf("k", 1, "v", 11))
		mustAsk(t, x, 1, 3, "k")
		deliverThis(t, x, m)
		wantAnswers(t, x)
		wantNet(t, x, fetchOf(1, 0, "k", 3, 1))
		wantEntries(t, x, 1, entryOf("k", 1, "v", 11))
		deliverAll(t, x)
		wantAnswers(t, x, toldOf(1, 3, 1, "v", 0))
	}
}

// TestLateAnswerIsNotOfItsFetch: all by calls: the answer to the first fetch would make the second seem younger than it is.
func TestLateAnswerIsNotOfItsFetch(t *testing.T) {
	x := mustNew(t, sample())
	mustWrite(t, x, "k", "v")
	mustAsk(t, x, 1, 1, "k")
	mustDeliver(t, x, 0)
	mustTimeout(t, x, 1, "k")
	mustWrite(t, x, "k", "w")
	mustClock(t, x, api.OK, 1, 50)
	mustAsk(t, x, 1, 2, "k")
	wantNet(t, x, fullOf(0, 1, "k", 1, 1, 0, "v"), fetchOf(1, 0, "k", 2, -1))
	mustDeliver(t, x, 0)
	wantAnswers(t, x, refusedOf(1, 1))
	wantEntries(t, x, 1)
	deliverAll(t, x)
	wantAnswers(t, x, toldOf(1, 2, 2, "w", 0))
}

// TestParentAnswersBehindAChildsTimeout: the parent learns, the child does not.
func TestParentAnswersBehindAChildsTimeout(t *testing.T) {
	x := mustNew(t, sample())
	mustWrite(t, x, "k", "v")
	mustAsk(t, x, 2, 1, "k")
	mustDeliver(t, x, 0)
	mustTimeout(t, x, 2, "k")
	wantAnswers(t, x, refusedOf(2, 1))
	wantNet(t, x, fetchOf(1, 0, "k", 2, -1)) // no word of it to the parent
	mustAsk(t, x, 2, 2, "k")
	wantNet(t, x, fetchOf(1, 0, "k", 2, -1), fetchOf(2, 1, "k", 3, -1))
	mustDeliver(t, x, 1) // waits for the parent's fetch, beside the one of before
	mustDeliver(t, x, 0)
	mustDeliver(t, x, 0)
	wantNet(t, x, fullOf(1, 2, "k", 1, 1, 0, "v"), fullOf(1, 2, "k", 3, 1, 0, "v"))
	mustDeliver(t, x, 0)
	wantAnswers(t, x)
	wantEntries(t, x, 2)
	mustDeliver(t, x, 0)
	wantAnswers(t, x, toldOf(2, 2, 1, "v", 0))
}

func TestCrashOfNoCache(t *testing.T) {
	x, like := busy(t), busy(t)
	for _, node := range []int{0, -1, 3, 5, 6, math.MinInt, math.MaxInt} {
		if e := x.Crash(node); e != api.ErrNode {
			t.Errorf("P11: Crash(%d) = %d, want ErrNode", node, e)
		}
	}
	wantUnchanged(t, x, like)
}

func TestCrashOfAnEmptyCache(t *testing.T) {
	for nodes := 2; nodes <= api.MaxNodes; nodes++ {
		c := sample()
		c.Parents = make([]int, nodes)
		c.Parents[0] = -1
		x, like := mustNew(t, c), mustNew(t, c)
		for node := 1; node < nodes; node++ {
			mustCrash(t, x, node)
			mustCrash(t, x, node)
		}
		wantUnchanged(t, x, like)
		for _, node := range []int{0, nodes} {
			if e := x.Crash(node); e != api.ErrNode {
				t.Errorf("P11: Crash(%d) of %d nodes = %d, want ErrNode", node, nodes, e)
			}
		}
	}
}

func TestCrashLosesAll(t *testing.T) {
	c := sample()
	c.Waiters = 4
	x := mustNew(t, c)
	fill(t, x, "a", "b")
	x.Answers()
	mustClock(t, x, api.OK, 1, 11)
	mustAsk(t, x, 1, 1, "a")
	mustAsk(t, x, 2, 2, "a")
	mustAsk(t, x, 2, 3, "c")
	mustDeliver(t, x, 1) // a child waits for each of a and c, beside a client
	mustDeliver(t, x, 1)
	if n := x.fetches.Waiting(1); n != 3 {
		t.Fatalf("P8: %d wait at 1, want 3", n)
	}
	sent := x.Net()
	mustCrash(t, x, 1)
	wantAnswers(t, x)
	wantNet(t, x, sent...) // what is under way stays, and nothing else is sent
	wantEntries(t, x, 1)
	for _, key := range []string{"a", "b", "c"} {
		if e := x.Timeout(1, key); e != api.ErrNone {
			t.Errorf("P11: Timeout(1, %q) behind a Crash = %d, want ErrNone", key, e)
		}
	}
	mustTimeout(t, x, 2, "a") // the child's own fetches are there still
	mustTimeout(t, x, 2, "c")
	wantAnswers(t, x, refusedOf(2, 2), refusedOf(2, 3))
}

func TestCrashLeavesOtherCaches(t *testing.T) {
	x := mustNew(t, star(4))
	mustWrite(t, x, "k", "v")
	for node := 1; node <= 3; node++ {
		mustAsk(t, x, node, node, "k")
		deliverAll(t, x)
		mustAsk(t, x, node, node, "b")
	}
	x.Answers()
	x.net = nil
	mustCrash(t, x, 1)
	wantEntries(t, x, 1)
	wantEntries(t, x, 2, api.Entry{Key: "b"}, entryOf("k", 1, "v", 0))
	wantEntries(t, x, 3, entryOf("k", 1, "v", 0))
	mustTimeout(t, x, 3, "b")
	wantAnswers(t, x, refusedOf(3, 3))
}

// TestAskBehindACrash: the cache asks as if it never had anything, but with a serial of its own.
func TestAskBehindACrash(t *testing.T) {
	x := mustNew(t, sample())
	mustWrite(t, x, "k", "v")
	mustAsk(t, x, 1, 1, "k")
	deliverAll(t, x)
	wantAnswers(t, x, toldOf(1, 1, 1, "v", 0))
	mustCrash(t, x, 1)
	mustAsk(t, x, 1, 2, "k") // the entry was fresh
	wantAnswers(t, x)
	wantNet(t, x, fetchOf(1, 0, "k", 2, -1))
	mustCrash(t, x, 1)
	mustAsk(t, x, 1, 3, "k") // there was a fetch for it
	wantNet(t, x, fetchOf(1, 0, "k", 2, -1), fetchOf(1, 0, "k", 3, -1))
	deliverAll(t, x)
	wantAnswers(t, x, toldOf(1, 3, 1, "v", 0)) // nobody else
	wantEntries(t, x, 1, entryOf("k", 1, "v", 0))
}

func TestClockGoesOnBehindACrash(t *testing.T) {
	x := mustNew(t, sample())
	mustWrite(t, x, "k", "v")
	mustClock(t, x, api.OK, 1, 7)
	mustClock(t, x, api.OK, 2, 9)
	mustCrash(t, x, 1)
	mustRead(t, x, 7, 9)
	mustClock(t, x, api.OK, 1, 3) // no more than it did
	mustAsk(t, x, 1, 1, "k")
	mustDeliver(t, x, 0)
	mustClock(t, x, api.OK, 1, 8)
	mustDeliver(t, x, 0)
	wantAnswers(t, x, toldOf(1, 1, 1, "v", 1))
}

func TestRoomBehindACrash(t *testing.T) {
	for each := 1; each <= api.MaxEach; each++ {
		c := star(each)
		c.Entries = each
		x := mustNew(t, c)
		keys := []string{"a", "b", "c", "d"}[:each]
		fill(t, x, keys...)
		mustClock(t, x, api.OK, 1, 11)
		for id, key := range keys {
			mustAsk(t, x, 1, id, key)
		}
		mustAsk(t, x, 1, 50, "z")
		x.Answers()
		x.net = nil
		mustCrash(t, x, 1)
		for id := range each {
			mustAsk(t, x, 1, id, "z")
		}
		wantAnswers(t, x)
		wantNet(t, x, fetchOf(1, 0, "z", 2*each+1, -1))
		mustAsk(t, x, 1, 51, "z")
		wantAnswers(t, x, refusedOf(1, 51))
		deliverAll(t, x)
		fill(t, x, keys...)
		want := []string{"d", "c", "b", "a"}[4-each:]
		wantKeys(t, x, 1, want...)
	}
}

// TestAnswerBehindACrash: the answers of each kind to a fetch that a cache had are let go, before and behind a new fetch for the key.
func TestAnswerBehindACrash(t *testing.T) {
	for _, m := range []api.Message{
		fullOf(0, 1, "k", 2, 2, 0, "w"), sameOf(0, 1, "k", 2, 1, 0), refuseOf(0, 1, "k", 2),
	} {
		x := stale(t, 0)
		mustCrash(t, x, 1)
		deliverThis(t, x, m)
		wantAnswers(t, x)
		wantNet(t, x)
		wantEntries(t, x, 1)
		mustAsk(t, x, 1, 3, "k")
		deliverThis(t, x, m)
		wantAnswers(t, x)
		wantNet(t, x, fetchOf(1, 0, "k", 3, -1))
		wantEntries(t, x, 1)
		deliverAll(t, x)
		wantAnswers(t, x, toldOf(1, 3, 1, "v", 0))
	}
}

// TestChildOfACrashedParent: it waits until its own Timeout, and asks again.
func TestChildOfACrashedParent(t *testing.T) {
	x := mustNew(t, sample())
	mustWrite(t, x, "k", "v")
	mustAsk(t, x, 2, 1, "k")
	mustDeliver(t, x, 0)
	mustCrash(t, x, 1)
	deliverAll(t, x)
	wantAnswers(t, x)
	wantEntries(t, x, 1)
	mustAsk(t, x, 2, 2, "k")
	wantNet(t, x)
	mustTimeout(t, x, 2, "k")
	wantAnswers(t, x, refusedOf(2, 1), refusedOf(2, 2))
	mustAsk(t, x, 2, 3, "k")
	wantNet(t, x, fetchOf(2, 1, "k", 3, -1))
	deliverAll(t, x)
	wantAnswers(t, x, toldOf(2, 3, 1, "v", 0))
}

// TestFetchOfACrashedChild: the parent answers it all the same.
func TestFetchOfACrashedChild(t *testing.T) {
	x := mustNew(t, sample())
	mustWrite(t, x, "k", "v")
	mustAsk(t, x, 2, 1, "k")
	mustCrash(t, x, 2)
	for range 4 {
		mustDeliver(t, x, 0)
	}
	wantNet(t, x)
	wantAnswers(t, x)
	wantEntries(t, x, 1, entryOf("k", 1, "v", 0))
	wantEntries(t, x, 2)
}

func TestCrashLeavesListsThatCameOut(t *testing.T) {
	x, like := busy(t), busy(t)
	list, _ := x.Entries(1)
	mustCrash(t, x, 1)
	mustTimeout(t, x, 2, "a")
	mustCrash(t, like, 1)
	mustTimeout(t, like, 2, "a")
	if len(list) != 2 || list[0].Key != "b" || list[1] != entryOf("a", 1, "v", 11) {
		t.Errorf("P2: a list that came out became %+v", list)
	}
	scribble(list)
	wantUnchanged(t, x, like)
}

// TestTiersCrashAlone: what is done to one tier is not done to another.
func TestTiersCrashAlone(t *testing.T) {
	x, y, like := busy(t), busy(t), busy(t)
	mustDouble(t, x, 0)
	mustLose(t, x, 1)
	mustTimeout(t, x, 1, "a")
	mustCrash(t, x, 1)
	mustCrash(t, x, 2)
	wantUnchanged(t, y, like)
}
