package estuary

import (
	"math"
	"math/rand"
	"slices"
	"testing"

	"estuary/api"
)

func TestAnswersAreToldOnce(t *testing.T) {
	x := mustNew(t, sample())
	wantAnswers(t, x)
	mustWrite(t, x, "k", "v")
	mustAsk(t, x, 1, 3, "k")
	mustAsk(t, x, 1, 2, "k")
	mustAsk(t, x, 1, 1, "k")
	deliverAll(t, x)
	mustAsk(t, x, 1, 0, "k")
	wantAnswers(t, x, refusedOf(1, 1), toldOf(1, 3, 1, "v", 0), toldOf(1, 2, 1, "v", 0), toldOf(1, 0, 1, "v", 0))
	wantAnswers(t, x)
	mustAsk(t, x, 1, 5, "k")
	wantAnswers(t, x, toldOf(1, 5, 1, "v", 0))
	wantAnswers(t, x)
}

// TestAnswersAreOfTheirTime: what comes later does not change them.
func TestAnswersAreOfTheirTime(t *testing.T) {
	x := mustNew(t, sample())
	mustWrite(t, x, "k", "v")
	mustAsk(t, x, 1, 1, "k")
	deliverAll(t, x)
	mustClock(t, x, api.OK, 1, 4)
	mustAsk(t, x, 1, 2, "k")
	mustWrite(t, x, "k", "w")
	mustClock(t, x, api.OK, 1, 40)
	mustAsk(t, x, 1, 3, "k")
	deliverAll(t, x)
	wantAnswers(t, x, toldOf(1, 1, 1, "v", 0), toldOf(1, 2, 1, "v", 4), toldOf(1, 3, 2, "w", 0))
}

func TestEntriesOfNoCache(t *testing.T) {
	x, like := mustNew(t, sample()), mustNew(t, sample())
	for _, y := range []*Tier{x, like} {
		fill(t, y, "a", "b")
	}
	for _, node := range []int{0, -1, 3, 5, 6, math.MinInt, math.MaxInt} {
		if list, e := x.Entries(node); len(list) != 0 || e != api.ErrNode {
			t.Errorf("P10: Entries(%d) = %v, %d, want ErrNode", node, list, e)
		}
	}
	wantUnchanged(t, x, like)
}

func TestEntriesAreOfNow(t *testing.T) {
	x := mustNew(t, sample())
	mustWrite(t, x, "a", "v")
	fill(t, x, "a", "b")
	wantEntries(t, x, 1, api.Entry{Key: "b"}, entryOf("a", 1, "v", 0))
	mustClock(t, x, api.OK, 1, 25) // they are there though they are not fresh
	wantEntries(t, x, 1, api.Entry{Key: "b", Age: 25}, entryOf("a", 1, "v", 25))
	mustClock(t, x, api.OK, 2, 7)
	wantEntries(t, x, 1, api.Entry{Key: "b", Age: 25}, entryOf("a", 1, "v", 25))
}

// busy is a tier with entries, fetches, messages and answers.
func busy(t *testing.T) *Tier {
	t.Helper()
	x := mustNew(t, sample())
	mustWrite(t, x, "a", "v")
	fill(t, x, "a", "b")
	mustClock(t, x, api.OK, 1, 11)
	for i, key := range []string{"a", "b", "c"} {
		mustAsk(t, x, 1, i, key)
		mustAsk(t, x, 2, i, key)
	}
	return x
}

func TestNetAndEntriesChangeNothing(t *testing.T) {
	x, like := busy(t), busy(t)
	for range 3 {
		x.Net()
		for node := -1; node <= api.MaxNodes; node++ {
			x.Entries(node)
		}
		wantUnchanged(t, x, like)
	}
}

// scribble writes into a list and into its spare room.
func scribble[T any](list []T) {
	clear(list[:cap(list)])
	_ = append(list[:0], make([]T, cap(list)+1)...)
}

func TestListsAreTheCallers(t *testing.T) {
	x, like := busy(t), busy(t)
	first, second := x.Net(), x.Net()
	scribble(first)
	if !slices.Equal(second, like.Net()) {
		t.Errorf("P2: another list that came out became %+v", second)
	}
	entries, _ := x.Entries(1)
	others, _ := x.Entries(1)
	scribble(entries)
	if want, _ := like.Entries(1); len(others) != 2 || !slices.Equal(others, want) {
		t.Errorf("P2: another list that came out became %+v", others)
	}
	wantUnchanged(t, x, like)
}

func TestAnswersAreTheCallers(t *testing.T) {
	for n := 1; n <= 9; n++ { // some of the lists have spare room
		x := busy(t)
		x.Answers()
		for id := range n {
			mustAsk(t, x, 1, id, "z")
		}
		answers := x.Answers()
		whole := answers[:cap(answers)]
		kept := slices.Clone(whole)
		mustAsk(t, x, 1, 50, "z")
		if !slices.Equal(whole, kept) {
			t.Errorf("P2: what came out became %+v", whole)
		}
		scribble(answers)
		wantAnswers(t, x, refusedOf(1, 50))
	}
}

func TestTiersShareNothing(t *testing.T) {
	x, y, like := busy(t), busy(t), busy(t)
	deliverAll(t, x)
	x.Answers()
	fill(t, x, "d", "e", "f")
	wantUnchanged(t, y, like)
}

// TestEveryoneIsAnsweredOnce: whatever the order in which messages come, if all come, whoever asked is told or refused, once, and no cache has more than it may.
func TestEveryoneIsAnsweredOnce(t *testing.T) {
	for seed := range int64(200) {
		choose := rand.New(rand.NewSource(seed))
		x := mustNew(t, api.Config{
			Parents: []int{-1, 0, 1, 1, 2, 0},
			Drift:   choose.Intn(500001),
			Budget:  1 + choose.Intn(30),
			Entries: 1 + choose.Intn(4),
			Waiters: 1 + choose.Intn(4),
		})
		asked := 0
		var answers []api.Answer
		for range 300 {
			key := string([]byte{'a' + byte(choose.Intn(6))})
			node := 1 + choose.Intn(5)
			switch choose.Intn(6) {
			case 0, 1:
				mustAsk(t, x, node, asked, key)
				asked++
			case 2:
				mustClock(t, x, api.OK, node, x.clocks[node]+choose.Intn(5))
			case 3:
				mustWrite(t, x, key, key)
			default:
				if n := len(x.Net()); n > 0 {
					mustDeliver(t, x, choose.Intn(n))
				}
			}
			wantBounds(t, x)
			answers = append(answers, x.Answers()...)
		}
		deliverAll(t, x)
		answers = append(answers, x.Answers()...)
		wantEachOnce(t, answers, asked)
		if len(x.fetches) != 0 {
			t.Errorf("P9: fetches are left: %+v", x.fetches)
		}
	}
}

func wantBounds(t *testing.T, x *Tier) {
	t.Helper()
	for node := 1; node < len(x.config.Parents); node++ {
		list, _ := x.Entries(node)
		waiting := x.fetches.Waiting(node)
		if len(list) > x.config.Entries || waiting > x.config.Waiters {
			t.Fatalf("P12: node %d has %d entries and %d who wait", node, len(list), waiting)
		}
	}
}

func wantEachOnce(t *testing.T, answers []api.Answer, asked int) {
	t.Helper()
	times := make([]int, asked)
	for _, a := range answers {
		times[a.Id]++
	}
	for id, n := range times {
		if n != 1 {
			t.Fatalf("P10: the client %d of %d was answered %d times", id, asked, n)
		}
	}
}
