package estuary

import (
	"math/rand"
	"strconv"
	"testing"

	"estuary/api"
)

// state is what the origin had of a key from a time on.
type state struct {
	present int
	value   string
	from    int
}

// play plays calls in any order, and keeps what the origin had, so that what clients are told can be held against it.
type play struct {
	t      *testing.T
	x      *Tier
	choose *rand.Rand
	slow   bool // some clocks go slower than the drift allows
	step   int  // times go by in multiples of this
	now    int
	had    map[string][]state // by key, by version
	keys   []string           // by client: what it asked for
	heard  []int              // by client: how often it was answered
	lost   map[int]bool       // clients that waited at a cache that crashed
	told   int
}

func newPlay(t *testing.T, seed int64, drift, step int) *play {
	choose := rand.New(rand.NewSource(seed))
	p := &play{t: t, choose: choose, step: step, had: map[string][]state{}, lost: map[int]bool{}}
	p.x = mustNew(t, api.Config{
		Parents: [][]int{{-1, 0}, {-1, 0, 1}, {-1, 0, 1, 1}, {-1, 3, 3, 0, 2, 2}, {-1, 0, 1, 2, 3, 4}}[choose.Intn(5)],
		Drift:   drift,
		Budget:  1 + choose.Intn(8*step),
		Entries: 1 + choose.Intn(4),
		Waiters: 1 + choose.Intn(4),
	})
	return p
}

func (p *play) node() int { return 1 + p.choose.Intn(len(p.x.config.Parents)-1) }

func (p *play) key() string { return string([]byte{'a' + byte(p.choose.Intn(3))}) }

// of tells what the origin had of a key, by version.
func (p *play) of(key string) []state {
	if len(p.had[key]) == 0 {
		p.had[key] = []state{{}}
	}
	return p.had[key]
}

func (p *play) change(key string) {
	versions := p.of(key)
	last := versions[len(versions)-1]
	next := state{from: p.now}
	if last.present == 0 || p.choose.Intn(3) > 0 {
		next.present, next.value = 1, key+strconv.Itoa(len(versions))
		mustWrite(p.t, p.x, key, next.value)
	} else if e := p.x.Remove(key); e != api.OK {
		p.t.Fatalf("P6: Remove(%q) = %d", key, e)
	}
	p.had[key] = append(versions, next)
}

// pass lets time go by. Node 1's clock goes as slowly as it may, the others as they like.
func (p *play) pass() {
	d := p.step * (1 + p.choose.Intn(3))
	p.now += d
	least := (d*(1000000-p.x.config.Drift) + 999999) / 1000000
	for node := 1; node < len(p.x.config.Parents); node++ {
		ticks := least
		if node > 1 && p.choose.Intn(3) == 0 {
			ticks += p.choose.Intn(2 * d)
		}
		if p.slow {
			ticks = p.choose.Intn(ticks + 1)
		}
		mustClock(p.t, p.x, api.OK, node, p.x.clocks[node]+ticks)
	}
}

func (p *play) ask() {
	key := p.key()
	id := len(p.keys)
	p.keys = append(p.keys, key)
	p.heard = append(p.heard, 0)
	mustAsk(p.t, p.x, p.node(), id, key)
}

// happen lets something happen to a message: late ones stay under way while others come.
func (p *play) happen(call func(*testing.T, *Tier, int)) {
	if n := len(p.x.Net()); n > 0 {
		call(p.t, p.x, p.choose.Intn(n))
	}
}

func (p *play) timeout(node int, key string) {
	if p.x.Timeout(node, key) == api.OK {
		if e := p.x.Timeout(node, key); e != api.ErrNone {
			p.t.Fatalf("P12: a cache had two fetches for %q: %d", key, e)
		}
	}
}

func (p *play) crash(node int) {
	for at, fetch := range p.x.fetches {
		for _, who := range fetch.Waiters {
			if at.Node == node && who.Child == 0 {
				p.lost[who.Id] = true
			}
		}
	}
	mustCrash(p.t, p.x, node)
}

func (p *play) once() {
	switch n := p.choose.Intn(40); {
	case n < 4:
		p.change(p.key())
	case n < 10:
		p.pass()
	case n < 18:
		p.ask()
	case n < 21:
		if len(p.x.Net()) < api.MaxNet {
			p.happen(mustDouble)
		}
	case n < 22:
		p.happen(mustLose)
	case n < 23:
		p.timeout(p.node(), p.key())
	case n < 24:
		if p.choose.Intn(3) == 0 {
			p.crash(p.node())
		}
	default:
		p.happen(mustDeliver)
	}
	wantBounds(p.t, p.x)
	p.hear()
}

// hear holds what clients are told against what the origin had.
func (p *play) hear() {
	for _, a := range p.x.Answers() {
		p.heard[a.Id]++
		if a.Kind == api.Told {
			p.told++
			p.check(a)
		}
	}
}

func (p *play) check(a api.Answer) {
	versions := p.of(p.keys[a.Id])
	if a.Version >= len(versions) {
		p.t.Fatalf("P12: %+v is of a version that never was", a)
	}
	if was := versions[a.Version]; a.Present != was.present || a.Value != was.value {
		p.t.Fatalf("P12: %+v never was: that version was %+v", a, was)
	}
	if a.Age > p.x.config.Budget {
		p.t.Fatalf("P7: %+v is older than %d", a, p.x.config.Budget)
	}
	if p.slow || a.Version == len(versions)-1 {
		return
	}
	if over := versions[a.Version+1].from; over < p.now-a.Age { // and so no longer ago than Budget
		p.t.Fatalf("P12: at %d %+v was over since %d", p.now, a, over)
	}
}

// end ends all fetches: now everybody was answered once, but for those whose cache crashed.
func (p *play) end() {
	for node := 1; node < len(p.x.config.Parents); node++ {
		for _, key := range []string{"a", "b", "c"} {
			p.timeout(node, key)
		}
	}
	p.hear()
	if len(p.x.fetches) != 0 {
		p.t.Fatalf("P11: fetches are left: %+v", p.x.fetches)
	}
	for id, n := range p.heard {
		if n == 0 && !p.lost[id] || n > 1 || n == 1 && p.lost[id] {
			p.t.Fatalf("P11: the client %d was answered %d times", id, n)
		}
	}
}

// TestToldIsTrue: whatever happens to messages and caches, what clients are told was the origin's no longer ago than the budget, if clocks go as fast as they must; and if they do not, it was at some time.
func TestToldIsTrue(t *testing.T) {
	for _, c := range []struct {
		drift, step int // with the first three a slow clock tells just how much time has gone by, so that nothing is hidden by rounding
		slow        bool
	}{
		{0, 1, false}, {100000, 10, false}, {500000, 2, false}, {123457, 7, false}, {500000, 1, false}, {100000, 10, true}, {0, 3, true},
	} {
		told := 0
		for seed := range int64(100) {
			p := newPlay(t, seed, c.drift, c.step)
			p.slow = c.slow
			for range 500 {
				p.once()
			}
			p.end()
			told += p.told
		}
		if told < 1000 {
			t.Errorf("P12: with Drift %d only %d were told anything", c.drift, told)
		}
	}
}
