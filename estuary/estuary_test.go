package estuary

import (
	"math"
	"slices"
	"strings"
	"testing"

	"estuary/api"
	"estuary/origin"
)

func sample() api.Config {
	return api.Config{Parents: []int{-1, 0, 1}, Drift: 0, Budget: 10, Entries: 2, Waiters: 2}
}

func mustNew(t *testing.T, c api.Config) *Tier {
	t.Helper()
	x, e := New(c)
	if x == nil || e != api.OK {
		t.Fatalf("P5: New(%+v) = %v, %d", c, x, e)
	}
	return x
}

func mustClock(t *testing.T, x *Tier, want api.Errno, node, reading int) {
	t.Helper()
	if e := x.Clock(node, reading); e != want {
		t.Errorf("P6: Clock(%d, %d) = %d, want %d", node, reading, e, want)
	}
}

func mustRead(t *testing.T, x *Tier, want ...int) {
	t.Helper()
	if got := x.clocks[1:len(x.config.Parents)]; !slices.Equal(got, want) {
		t.Errorf("P6: the caches' clocks read %v, want %v", got, want)
	}
}

func TestPackAndUnpack(t *testing.T) {
	m := api.Message{Kind: api.Fetch, From: 2, To: 1, Key: "k", Serial: 1, Version: -1}
	want := "\x01\x02\x01\x00\x00\x00\x01\x00\x00\x00\x00\x00\x00\x00\x00\x00\x00\x00\x01k\x00"
	if s, e := Pack(m); s != want || e != api.OK {
		t.Errorf("P3: Pack(%+v) = %q, %d", m, s, e)
	}
	if back, e := Unpack(want); back != m || e != api.OK {
		t.Errorf("P4: Unpack(%q) = %+v, %d", want, back, e)
	}
	m.Age = 1
	if s, e := Pack(m); s != "" || e != api.ErrWire {
		t.Errorf("P3: Pack(%+v) = %q, %d, want ErrWire", m, s, e)
	}
	if back, e := Unpack(want + "\x00"); back != (api.Message{}) || e != api.ErrWire {
		t.Errorf("P4: Unpack of a byte more = %+v, %d, want ErrWire", back, e)
	}
}

func TestRightAndNew(t *testing.T) {
	for _, parents := range [][]int{{-1, 0}, {-1, 0, 1}, {-1, 5, 1, 2, 3, 0}} {
		c := sample()
		c.Parents = parents
		if e := Right(c); e != api.OK {
			t.Errorf("P5: Right(%+v) = %d", c, e)
		}
		mustNew(t, c)
	}
	for _, change := range []func(c *api.Config){
		func(c *api.Config) { c.Parents = nil },
		func(c *api.Config) { c.Parents = []int{-1} },
		func(c *api.Config) { c.Parents = []int{-1, 0, 0, 0, 0, 0, 0} },
		func(c *api.Config) { c.Parents = []int{-1, 2, 1} },
		func(c *api.Config) { c.Parents = []int{-1, 0, 3} },
		func(c *api.Config) { c.Drift = 500001 },
		func(c *api.Config) { c.Budget = 0 },
		func(c *api.Config) { c.Entries = 5 },
		func(c *api.Config) { c.Waiters = 0 },
	} {
		c := sample()
		change(&c)
		if e := Right(c); e != api.ErrConfig {
			t.Errorf("P5: Right(%+v) = %d, want ErrConfig", c, e)
		}
		if x, e := New(c); x != nil || e != api.ErrConfig {
			t.Errorf("P5: New(%+v) = %v, %d, want ErrConfig", c, x, e)
		}
	}
}

func TestNewTierIsEmpty(t *testing.T) {
	x := mustNew(t, sample())
	mustRead(t, x, 0, 0)
	for b := byte('a'); b <= 'z'; b++ {
		key := string([]byte{b})
		if got := x.origin.At(key); got != (origin.Record{}) {
			t.Errorf("P5: a new tier's origin has %+v for %q", got, key)
		}
		if e := x.Remove(key); e != api.ErrNone {
			t.Errorf("P6: Remove(%q) of a new tier = %d, want ErrNone", key, e)
		}
	}
	if len(x.Net()) != 0 || len(x.Answers()) != 0 {
		t.Error("P5: a new tier has messages or answers")
	}
	for node := 1; node <= 2; node++ {
		if list, e := x.Entries(node); len(list) != 0 || e != api.OK {
			t.Errorf("P5: a new tier's Entries(%d) = %v, %d", node, list, e)
		}
	}
}

func TestConfigIsNotKept(t *testing.T) {
	room := []int{-1, 0, 1, 77, 78}
	c := sample()
	c.Parents = room[:3]
	Right(c)
	x := mustNew(t, c)
	if !slices.Equal(room, []int{-1, 0, 1, 77, 78}) {
		t.Errorf("P2: what was handed in became %v", room)
	}
	clear(room)
	if !slices.Equal(x.config.Parents, []int{-1, 0, 1}) {
		t.Errorf("P2: the tier's parents became %v", x.config.Parents)
	}
	mustClock(t, x, api.OK, 2, 1)
	mustClock(t, x, api.ErrNode, 3, 1)
	x.Write("k", "v")
	if !slices.Equal(room, make([]int, 5)) {
		t.Errorf("P2: the caller's list became %v", room)
	}
}

func TestWriteAndRemove(t *testing.T) {
	x := mustNew(t, sample())
	write := func(want api.Errno, key, value string) {
		t.Helper()
		if e := x.Write(key, value); e != want {
			t.Errorf("P6: Write(%q, %q) = %d, want %d", key, value, e, want)
		}
	}
	remove := func(want api.Errno, key string) {
		t.Helper()
		if e := x.Remove(key); e != want {
			t.Errorf("P6: Remove(%q) = %d, want %d", key, e, want)
		}
	}
	have := func(want origin.Record) {
		t.Helper()
		if got := x.origin.At("k"); got != want {
			t.Errorf("P6: the record of k is %+v, want %+v", got, want)
		}
	}
	long := strings.Repeat("v", 17)
	write(api.OK, "k", "v")
	write(api.ErrValue, "k", long)
	write(api.ErrKey, "K", long)
	remove(api.ErrKey, "K")
	remove(api.ErrNone, "j")
	have(origin.Record{Version: 1, Present: 1, Value: "v"})
	remove(api.OK, "k")
	have(origin.Record{Version: 2})
	remove(api.ErrNone, "k")
	have(origin.Record{Version: 2})
	write(api.OK, "k", "w")
	have(origin.Record{Version: 3, Present: 1, Value: "w"})
	for b := byte('a'); b < 'a'+15; b++ {
		write(api.OK, "x"+string([]byte{b}), "")
	}
	write(api.ErrFull, "z", "v")
	write(api.OK, "k", "x")
	have(origin.Record{Version: 4, Present: 1, Value: "x"})
}

func TestClockReadings(t *testing.T) {
	x := mustNew(t, sample())
	mustClock(t, x, api.OK, 1, 0)
	mustRead(t, x, 0, 0)
	mustClock(t, x, api.OK, 2, 7)
	mustRead(t, x, 0, 7)
	for _, reading := range []int{6, 0, 7} { // no more than it did
		mustClock(t, x, api.OK, 2, reading)
		mustRead(t, x, 0, 7)
	}
	for _, reading := range []int{-1, 1<<40 + 1, math.MinInt, math.MaxInt} {
		mustClock(t, x, api.ErrTime, 2, reading)
		mustRead(t, x, 0, 7)
	}
	mustClock(t, x, api.OK, 2, 8)
	mustClock(t, x, api.OK, 1, 1<<40)
	mustRead(t, x, 1<<40, 8)
	mustClock(t, x, api.OK, 1, 5)
	mustRead(t, x, 1<<40, 8)
}

func TestClockNodes(t *testing.T) {
	for nodes := 2; nodes <= api.MaxNodes; nodes++ {
		c := sample()
		c.Parents = make([]int, nodes)
		c.Parents[0] = -1
		x := mustNew(t, c)
		for _, node := range []int{0, -1, nodes, api.MaxNodes, math.MinInt, math.MaxInt} {
			mustClock(t, x, api.ErrNode, node, 1)
			mustClock(t, x, api.ErrNode, node, -1) // the node's error is named first
		}
		mustRead(t, x, make([]int, nodes-1)...)
		var want []int
		for node := 1; node < nodes; node++ {
			mustClock(t, x, api.OK, node, 10*node)
			want = append(want, 10*node)
		}
		mustRead(t, x, want...)
	}
}

func TestTiersAreApart(t *testing.T) {
	x, y := mustNew(t, sample()), mustNew(t, sample())
	x.Write("k", "v")
	x.Clock(1, 5)
	mustRead(t, y, 0, 0)
	if e := y.Remove("k"); e != api.ErrNone {
		t.Errorf("P2: a key of one tier is another's, too: %d", e)
	}
	if e := x.Remove("k"); e != api.OK {
		t.Errorf("P2: Remove = %d", e)
	}
}
