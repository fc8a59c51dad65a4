package estuary

import (
	"slices"

	"estuary/api"
	"estuary/caches"
	"estuary/words"
)

const (
	originNode = 0
	noTag      = -1 // of a Fetch for what the cache has not
)

// arrive lets a message come to its node.
func (t *Tier) arrive(m api.Message) {
	switch {
	case m.Kind != api.Fetch:
		t.answered(m)
	case m.To == originNode:
		t.askedOrigin(m)
	default:
		t.asked(caches.Place{Node: m.To, Key: m.Key}, child(m))
	}
}

// child is who sent a Fetch.
func child(m api.Message) caches.Waiter {
	return caches.Waiter{Child: m.From, Serial: m.Serial, Tag: m.Version}
}

func (t *Tier) askedOrigin(m api.Message) {
	r := t.origin.At(m.Key)
	t.tell(originNode, child(m), api.Entry{Key: m.Key, Version: r.Version, Present: r.Present, Value: r.Value})
}

// asked answers one who asks a cache, or lets them wait.
func (t *Tier) asked(at caches.Place, who caches.Waiter) {
	e, has := t.entries.At(at)
	if !has || !t.isFresh(at.Node, e) {
		t.wait(at, who)
		return
	}
	t.entries.Use(at)
	t.tell(at.Node, who, t.shown(at, e))
}

func (t *Tier) wait(at caches.Place, who caches.Waiter) {
	if t.fetches.Waiting(at.Node) >= t.config.Waiters {
		t.refuse(at, who)
		return
	}
	fetch, has := t.fetches[at]
	if !has {
		t.fetch(at, t.tag(at), []caches.Waiter{who})
		return
	}
	fetch.Waiters = append(fetch.Waiters, who)
	t.fetches[at] = fetch
}

// tag tells which version a cache has.
func (t *Tier) tag(at caches.Place) int {
	if e, has := t.entries.At(at); has {
		return e.Version
	}
	return noTag
}

// fetch sends a new fetch, which takes the place of any other there.
func (t *Tier) fetch(at caches.Place, tag int, waiters []caches.Waiter) {
	t.serial++
	t.fetches[at] = caches.Fetch{Serial: t.serial, Sent: t.clocks[at.Node], Waiters: waiters}
	t.send(api.Message{Kind: api.Fetch, From: at.Node, To: t.config.Parents[at.Node], Key: at.Key, Serial: t.serial, Version: tag})
}

// answered lets the answer to a fetch come to its cache.
func (t *Tier) answered(m api.Message) {
	at := caches.Place{Node: m.To, Key: m.Key}
	fetch, has := t.fetches[at]
	if !has || fetch.Serial != m.Serial {
		return
	}
	switch {
	case m.Kind == api.Refuse:
		t.refuseAll(at)
	case m.Kind == api.Same && t.tag(at) != m.Version: // what is the same as it was is there no more
		t.fetch(at, noTag, fetch.Waiters)
	default:
		t.learn(at, m, m.Age+t.elapsed(at.Node, fetch.Sent))
		t.finish(at)
	}
}

// learn takes from a Full or a Same what is news; base is how old that is at most.
func (t *Tier) learn(at caches.Place, m api.Message, base int) {
	e, has := t.entries.At(at)
	now := t.clocks[at.Node]
	switch {
	case !has || e.Version < m.Version:
		t.entries.Store(at, caches.Entry{Version: m.Version, Present: m.Present, Value: m.Value, Base: base, Since: now})
	case e.Version == m.Version && base <= t.age(at.Node, e):
		e.Base, e.Since = base, now
		t.entries.Store(at, e)
	}
}

// finish ends a fetch that has brought its cache up to date.
func (t *Tier) finish(at caches.Place) {
	t.entries.Use(at)
	e, _ := t.entries.At(at)
	if !t.isFresh(at.Node, e) {
		t.refuseAll(at)
		return
	}
	for _, who := range t.end(at) {
		t.tell(at.Node, who, t.shown(at, e))
	}
}

func (t *Tier) refuseAll(at caches.Place) {
	for _, who := range t.end(at) {
		t.refuse(at, who)
	}
}

// end lets a fetch be over, and tells who waited for it.
func (t *Tier) end(at caches.Place) []caches.Waiter {
	waiters := t.fetches[at].Waiters
	delete(t.fetches, at)
	return waiters
}

// tell answers one who asked a node by what it has.
func (t *Tier) tell(node int, who caches.Waiter, e api.Entry) {
	if who.Child == 0 {
		t.answers = append(t.answers, api.Answer{Node: node, Id: who.Id, Kind: api.Told, Version: e.Version, Present: e.Present, Value: e.Value, Age: e.Age})
		return
	}
	m := api.Message{Kind: api.Full, From: node, To: who.Child, Key: e.Key, Serial: who.Serial, Version: e.Version, Age: e.Age, Present: e.Present, Value: e.Value}
	if who.Tag == e.Version {
		m.Kind, m.Present, m.Value = api.Same, 0, ""
	}
	t.send(m)
}

func (t *Tier) refuse(at caches.Place, who caches.Waiter) {
	if who.Child == 0 {
		t.answers = append(t.answers, api.Answer{Node: at.Node, Id: who.Id, Kind: api.Refused})
		return
	}
	t.send(api.Message{Kind: api.Refuse, From: at.Node, To: who.Child, Key: at.Key, Serial: who.Serial})
}

func (t *Tier) send(m api.Message) {
	t.net = append(t.net, m)
}

func (t *Tier) isSent(i int) bool {
	return words.Within(i, 0, len(t.net)-1)
}

// take takes a message out of the net.
func (t *Tier) take(i int) api.Message {
	m := t.net[i]
	t.net = slices.Delete(t.net, i, i+1)
	return m
}

// shown is an entry as others see it now.
func (t *Tier) shown(at caches.Place, e caches.Entry) api.Entry {
	return api.Entry{Key: at.Key, Version: e.Version, Present: e.Present, Value: e.Value, Age: t.age(at.Node, e)}
}

func (t *Tier) isFresh(node int, e caches.Entry) bool {
	return t.age(node, e) <= t.config.Budget
}

func (t *Tier) age(node int, e caches.Entry) int {
	return e.Age(t.clocks[node], t.config.Drift)
}

// elapsed tells how much time has gone by at most since a cache's clock read since.
func (t *Tier) elapsed(node, since int) int {
	return caches.Elapsed(t.clocks[node]-since, t.config.Drift)
}
