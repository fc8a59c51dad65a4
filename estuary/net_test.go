package estuary

import (
	"math"
	"slices"
	"testing"

	"estuary/api"
)

func mustLose(t *testing.T, x *Tier, i int) {
	t.Helper()
	if e := x.Lose(i); e != api.OK {
		t.Fatalf("P9: Lose(%d) = %d", i, e)
	}
}

func mustDouble(t *testing.T, x *Tier, i int) {
	t.Helper()
	if e := x.Double(i); e != api.OK {
		t.Fatalf("P9: Double(%d) = %d", i, e)
	}
}

// three is a tier with a message from each of three caches to the origin.
func three(t *testing.T) *Tier {
	t.Helper()
	x := mustNew(t, api.Config{Parents: []int{-1, 0, 0, 0}, Budget: 10, Entries: 4, Waiters: 4})
	mustWrite(t, x, "k", "v")
	for node := 1; node <= 3; node++ {
		mustAsk(t, x, node, node, "k")
	}
	return x
}

func TestLoseAndDoubleWhereNoMessageIs(t *testing.T) {
	x, like := mustNew(t, sample()), mustNew(t, sample())
	wrong := func(places ...int) {
		t.Helper()
		for _, i := range places {
			if e := x.Lose(i); e != api.ErrPlace {
				t.Errorf("P9: Lose(%d) = %d, want ErrPlace", i, e)
			}
			if e := x.Double(i); e != api.ErrPlace {
				t.Errorf("P9: Double(%d) = %d, want ErrPlace", i, e)
			}
		}
		wantUnchanged(t, x, like)
	}
	wrong(0, 1, -1, math.MinInt, math.MaxInt)
	x, like = three(t), three(t)
	wrong(3, 4, 63, 64, -1, -3, math.MinInt, math.MaxInt)
	x, like = crowd(t, api.MaxNet), crowd(t, api.MaxNet)
	wrong(64, 65, -1, math.MinInt, math.MaxInt) // Double: ErrFull applies, too, and is named later
}

func TestLoseTakesOutOneMessage(t *testing.T) {
	for i := range 3 {
		x := three(t)
		want := slices.Delete(x.Net(), i, i+1)
		mustLose(t, x, i)
		wantNet(t, x, want...)
		wantAnswers(t, x)
		deliverAll(t, x)
		if n := len(x.Answers()); n != 2 {
			t.Errorf("P9: %d were answered, want 2", n)
		}
		wantEntries(t, x, i+1)
		if n := x.fetches.Waiting(i + 1); n != 1 { // it does not know
			t.Errorf("P9: %d wait for what was lost, want 1", n)
		}
	}
	x := three(t)
	for range 3 {
		mustLose(t, x, 0)
	}
	wantNet(t, x)
	if e := x.Lose(0); e != api.ErrPlace {
		t.Errorf("P9: Lose(0) of none = %d, want ErrPlace", e)
	}
}

func TestLostAnswer(t *testing.T) {
	x := mustNew(t, sample())
	mustWrite(t, x, "k", "v")
	mustAsk(t, x, 1, 1, "k")
	mustDeliver(t, x, 0)
	mustLose(t, x, 0)
	wantNet(t, x)
	wantAnswers(t, x)
	wantEntries(t, x, 1)
	mustAsk(t, x, 1, 2, "k") // the fetch is there still: none is sent
	wantNet(t, x)
	mustAsk(t, x, 1, 3, "k")
	wantAnswers(t, x, refusedOf(1, 3))
}

func TestDoubleIsSentLast(t *testing.T) {
	for i := range 3 {
		x := three(t)
		want := x.Net()
		want = append(want, want[i])
		mustDouble(t, x, i)
		wantNet(t, x, want...)
		wantAnswers(t, x)
		mustDouble(t, x, 3) // that which is doubled already
		wantNet(t, x, append(want, want[i])...)
	}
}

func TestDoubleOfEachKind(t *testing.T) {
	for _, m := range []api.Message{
		fetchOf(2, 1, "k", 9, 7), fullOf(1, 2, "k", 9, 5, 3, "v"), sameOf(1, 2, "k", 9, 5, 3), refuseOf(1, 2, "k", 9),
	} {
		x := mustNew(t, sample())
		x.net = []api.Message{m}
		mustDouble(t, x, 0)
		wantNet(t, x, m, m)
	}
}

// crowd is a tier with so many messages, all alike.
func crowd(t *testing.T, messages int) *Tier {
	t.Helper()
	x := mustNew(t, sample())
	mustAsk(t, x, 1, 1, "k")
	for range messages - 1 {
		mustDouble(t, x, 0)
	}
	if n := len(x.Net()); n != messages {
		t.Fatalf("P9: there are %d messages, want %d", n, messages)
	}
	return x
}

func TestDoubleUpToTheBound(t *testing.T) {
	x, like := crowd(t, 64), crowd(t, 64)
	for _, i := range []int{0, 1, 63} {
		if e := x.Double(i); e != api.ErrFull {
			t.Errorf("P9: Double(%d) of 64 messages = %d, want ErrFull", i, e)
		}
	}
	wantUnchanged(t, x, like)
	mustLose(t, x, 5)
	mustDouble(t, x, 62) // the 64th once more
	if e := x.Double(0); e != api.ErrFull {
		t.Errorf("P9: Double(0) of 64 messages = %d, want ErrFull", e)
	}
	mustAsk(t, x, 2, 2, "k") // others are sent without bound
	mustAsk(t, x, 1, 3, "b")
	if n := len(x.Net()); n != 66 {
		t.Errorf("P9: there are %d messages, want 66", n)
	}
	if e := x.Double(65); e != api.ErrFull {
		t.Errorf("P9: Double(65) of 66 messages = %d, want ErrFull", e)
	}
	if e := x.Double(66); e != api.ErrPlace {
		t.Errorf("P9: Double(66) of 66 messages = %d, want ErrPlace", e)
	}
	mustLose(t, x, 0)
	mustLose(t, x, 0)
	if e := x.Double(63); e != api.ErrFull {
		t.Errorf("P9: Double(63) of 64 messages = %d, want ErrFull", e)
	}
	mustLose(t, x, 0)
	mustDouble(t, x, 62)
}

func TestDoubledFetchAtTheOrigin(t *testing.T) {
	x := mustNew(t, sample())
	mustWrite(t, x, "k", "v")
	mustAsk(t, x, 1, 1, "k")
	mustDouble(t, x, 0)
	mustDeliver(t, x, 0)
	mustWrite(t, x, "k", "w")
	mustDeliver(t, x, 0)
	wantNet(t, x, fullOf(0, 1, "k", 1, 1, 0, "v"), fullOf(0, 1, "k", 1, 2, 0, "w"))
	mustDeliver(t, x, 0)
	wantAnswers(t, x, toldOf(1, 1, 1, "v", 0))
	mustClock(t, x, api.OK, 1, 4)
	mustDeliver(t, x, 0) // let go, though it is of a greater version
	wantAnswers(t, x)
	wantEntries(t, x, 1, entryOf("k", 1, "v", 4))
}

// TestDoubledFetchAtACache: the child waits twice, and is answered twice.
func TestDoubledFetchAtACache(t *testing.T) {
	x := mustNew(t, sample())
	mustWrite(t, x, "k", "v")
	mustAsk(t, x, 2, 1, "k")
	mustDouble(t, x, 0)
	mustDouble(t, x, 0)
	mustDeliver(t, x, 0)
	mustDeliver(t, x, 0)
	wantNet(t, x, fetchOf(2, 1, "k", 1, -1), fetchOf(1, 0, "k", 2, -1))
	mustAsk(t, x, 1, 2, "k") // both take room
	wantAnswers(t, x, refusedOf(1, 2))
	mustDeliver(t, x, 1)
	mustDeliver(t, x, 1)
	wantNet(t, x, fetchOf(2, 1, "k", 1, -1), fullOf(1, 2, "k", 1, 1, 0, "v"), fullOf(1, 2, "k", 1, 1, 0, "v"))
	mustDeliver(t, x, 1)
	wantAnswers(t, x, toldOf(2, 1, 1, "v", 0))
	mustDeliver(t, x, 1)
	wantAnswers(t, x)
	mustDeliver(t, x, 0) // the third comes behind the end of its fetch: it is told all the same
	wantNet(t, x, fullOf(1, 2, "k", 1, 1, 0, "v"))
	mustDeliver(t, x, 0)
	wantAnswers(t, x)
	wantNet(t, x)
}

// TestDoubledFetchForWhichThereIsNoRoom: its Refuse ends the fetch, and the answer to the other is let go.
func TestDoubledFetchForWhichThereIsNoRoom(t *testing.T) {
	c := sample()
	c.Waiters = 1
	x := mustNew(t, c)
	mustWrite(t, x, "k", "v")
	mustAsk(t, x, 2, 1, "k")
	mustDouble(t, x, 0)
	mustDeliver(t, x, 0)
	mustDeliver(t, x, 0)
	wantNet(t, x, fetchOf(1, 0, "k", 2, -1), refuseOf(1, 2, "k", 1))
	mustDeliver(t, x, 1)
	wantAnswers(t, x, refusedOf(2, 1))
	deliverAll(t, x)
	wantAnswers(t, x)
	wantEntries(t, x, 1, entryOf("k", 1, "v", 0))
	wantEntries(t, x, 2)
}

// TestDoubledAnswer: the second of each kind is let go, whatever has come about meanwhile.
func TestDoubledAnswer(t *testing.T) {
	for _, m := range []api.Message{
		fullOf(0, 1, "k", 2, 2, 0, "w"), sameOf(0, 1, "k", 2, 1, 0), refuseOf(0, 1, "k", 2), fullOf(0, 1, "k", 2, 2, 50, "w"),
	} {
		x := stale(t, 0)
		x.net = []api.Message{m}
		mustDouble(t, x, 0)
		mustDouble(t, x, 0)
		mustDeliver(t, x, 0)
		if n := len(x.Answers()); n != 1 {
			t.Errorf("P9: %+v answered %d, want 1", m, n)
		}
		entries, _ := x.Entries(1)
		mustDeliver(t, x, 0)
		wantAnswers(t, x)
		wantEntries(t, x, 1, entries...)
		mustClock(t, x, api.OK, 1, 40)
		mustAsk(t, x, 1, 3, "k") // another fetch for the same key
		entries, _ = x.Entries(1)
		mustDeliver(t, x, 0)
		wantAnswers(t, x)
		wantEntries(t, x, 1, entries...)
		if n := x.fetches.Waiting(1); n != 1 {
			t.Errorf("P9: %d wait behind a second %+v, want 1", n, m)
		}
	}
}

// TestDoubledSameOfNoEntry: the first makes a new fetch, to which the second is no answer.
func TestDoubledSameOfNoEntry(t *testing.T) {
	c := sample()
	c.Entries = 1
	x := mustNew(t, c)
	fill(t, x, "a")
	x.Answers()
	mustClock(t, x, api.OK, 1, 11)
	mustAsk(t, x, 1, 1, "a")
	mustAsk(t, x, 1, 2, "b")
	mustDeliver(t, x, 1)
	mustDeliver(t, x, 1) // b takes the room of a
	wantKeys(t, x, 1, "b")
	mustDeliver(t, x, 0)
	mustDouble(t, x, 0)
	wantNet(t, x, sameOf(0, 1, "a", 2, 0, 0), sameOf(0, 1, "a", 2, 0, 0))
	mustDeliver(t, x, 0)
	wantNet(t, x, sameOf(0, 1, "a", 2, 0, 0), fetchOf(1, 0, "a", 4, -1))
	mustDeliver(t, x, 0)
	wantNet(t, x, fetchOf(1, 0, "a", 4, -1))
	wantAnswers(t, x, api.Answer{Node: 1, Id: 2, Kind: api.Told})
	deliverAll(t, x)
	wantAnswers(t, x, api.Answer{Node: 1, Id: 1, Kind: api.Told})
}

func TestLoseAndDoubleLeaveListsThatCameOut(t *testing.T) {
	x, like := three(t), three(t)
	mustDouble(t, x, 1)
	mustDouble(t, like, 1)
	list := x.Net()
	kept := slices.Clone(list)
	mustLose(t, x, 0)
	mustDouble(t, x, 0)
	if !slices.Equal(list, kept) {
		t.Errorf("P2: a list that came out became %+v", list)
	}
	scribble(list)
	mustLose(t, like, 0)
	mustDouble(t, like, 0)
	wantUnchanged(t, x, like)
}
