// Package estuary: caches below caches, and a budget of staleness: see DOC.md.
package estuary

import (
	"slices"
	"strings"

	"estuary/api"
	"estuary/caches"
	"estuary/config"
	"estuary/origin"
	"estuary/wire"
	"estuary/words"
)

// Tier has an origin, caches, and messages.
type Tier struct {
	config  api.Config
	origin  *origin.Origin
	clocks  [api.MaxNodes]int // by node; the origin's is never asked
	entries *caches.Entries
	fetches caches.Fetches
	serial  int           // of the last fetch
	net     []api.Message // under way, in the order in which they were sent
	answers []api.Answer  // that Answers has not told yet
}

// Pack writes a message as bytes (P3).
func Pack(m api.Message) (string, api.Errno) {
	return wire.Pack(m)
}

// Unpack reads a message (P4).
func Unpack(s string) (api.Message, api.Errno) {
	return wire.Unpack(s)
}

// Right tells whether a configuration is right (P5).
func Right(c api.Config) api.Errno {
	if !config.Right(c) {
		return api.ErrConfig
	}
	return api.OK
}

// New makes a tier (P5).
func New(c api.Config) (*Tier, api.Errno) {
	if err := Right(c); err != api.OK {
		return nil, err
	}
	return &Tier{
		config:  config.Copy(c),
		origin:  origin.New(),
		entries: caches.NewEntries(c.Entries),
		fetches: caches.Fetches{},
	}, api.OK
}

// Write gives a key a value (P6).
func (t *Tier) Write(key string, value string) api.Errno {
	return t.origin.Write(key, value)
}

// Remove takes a key away (P6).
func (t *Tier) Remove(key string) api.Errno {
	return t.origin.Remove(key)
}

// Clock lets a cache's clock go on (P6).
func (t *Tier) Clock(node int, reading int) api.Errno {
	if !t.isCache(node) {
		return api.ErrNode
	}
	if !words.Within(reading, 0, api.MaxTime) {
		return api.ErrTime
	}
	t.clocks[node] = max(t.clocks[node], reading)
	return api.OK
}

func (t *Tier) isCache(node int) bool {
	return words.Within(node, 1, len(t.config.Parents)-1)
}

// Ask is a client's request (P7).
func (t *Tier) Ask(node int, id int, key string) api.Errno {
	at, err := t.place(node, key)
	if err != api.OK {
		return err
	}
	t.asked(at, caches.Waiter{Id: id})
	return api.OK
}

// place is where a cache has what it has of a key.
func (t *Tier) place(node int, key string) (caches.Place, api.Errno) {
	if !t.isCache(node) {
		return caches.Place{}, api.ErrNode
	}
	if !words.IsKey(key) {
		return caches.Place{}, api.ErrKey
	}
	// A clone, so that the tier does not hold on to a longer text that the caller cut the key from.
	return caches.Place{Node: node, Key: strings.Clone(key)}, api.OK
}

// Net tells the messages that are under way (P9).
func (t *Tier) Net() []api.Message {
	return slices.Clone(t.net)
}

// Deliver lets a message come (P9).
func (t *Tier) Deliver(i int) api.Errno {
	if !t.isSent(i) {
		return api.ErrPlace
	}
	t.arrive(t.take(i))
	return api.OK
}

// Lose lets a message be lost (P9).
func (t *Tier) Lose(i int) api.Errno {
	if !t.isSent(i) {
		return api.ErrPlace
	}
	t.take(i)
	return api.OK
}

// Double sends a message a second time (P9).
func (t *Tier) Double(i int) api.Errno {
	if !t.isSent(i) {
		return api.ErrPlace
	}
	if len(t.net) >= api.MaxNet {
		return api.ErrFull
	}
	t.send(t.net[i])
	return api.OK
}

// Timeout ends a fetch (P11).
func (t *Tier) Timeout(node int, key string) api.Errno {
	at, err := t.place(node, key)
	if err != api.OK {
		return err
	}
	if _, has := t.fetches[at]; !has {
		return api.ErrNone
	}
	t.refuseAll(at)
	return api.OK
}

// Crash lets a cache lose all (P11).
func (t *Tier) Crash(node int) api.Errno {
	if !t.isCache(node) {
		return api.ErrNode
	}
	t.entries.Clear(node)
	t.fetches.Clear(node)
	return api.OK
}

// Answers tells what clients were answered (P10).
func (t *Tier) Answers() []api.Answer {
	told := t.answers
	t.answers = nil
	return told
}

// Entries tells a cache's entries (P10).
func (t *Tier) Entries(node int) ([]api.Entry, api.Errno) {
	if !t.isCache(node) {
		return nil, api.ErrNode
	}
	var list []api.Entry
	for _, key := range t.entries.Keys(node) {
		at := caches.Place{Node: node, Key: key}
		e, _ := t.entries.At(at)
		list = append(list, t.shown(at, e))
	}
	return list, api.OK
}
