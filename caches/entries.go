// Package caches: what the caches of a tier have, and what they wait for.
package caches

import (
	"slices"

	"estuary/api"
)

// million is what drifts are parts of.
const million = 1000000

// Place is where an entry or a fetch is found: at which cache, and for which key.
type Place struct {
	Node int
	Key  string
}

// Entry is what a cache has of a key: Base is how old it was at most when the cache's clock read Since.
type Entry struct {
	Version, Present int
	Value            string
	Base, Since      int
}

// Age tells how old an entry is at most, now that its cache's clock reads reading.
func (e Entry) Age(reading, drift int) int {
	return e.Base + Elapsed(reading-e.Since, drift)
}

// Elapsed tells how much time has gone by at most in ticks of a clock. It is rounded up, as an entry must never seem younger than it is.
func Elapsed(ticks, drift int) int {
	slowest := million - drift
	return (ticks*million + slowest - 1) / slowest
}

// Entries has the entries of all caches of a tier.
type Entries struct {
	most  int // of each cache
	found map[Place]Entry
	used  [api.MaxNodes][]string // by cache: the keys of its entries, those used last first
}

// NewEntries makes room for so many entries of each cache.
func NewEntries(most int) *Entries {
	return &Entries{most: most, found: map[Place]Entry{}}
}

// At tells the entry at a place; false, if there is none.
func (s *Entries) At(at Place) (Entry, bool) {
	e, has := s.found[at]
	return e, has
}

// Keys tells the keys of a cache's entries, those used last first.
func (s *Entries) Keys(node int) []string {
	return slices.Clone(s.used[node])
}

// Store puts an entry in a place, which is a use of it. If the cache has as many as it may, and none there, that which was used longest ago goes first.
func (s *Entries) Store(at Place, e Entry) {
	if _, has := s.found[at]; !has {
		s.makeRoom(at.Node)
		s.used[at.Node] = append(s.used[at.Node], at.Key)
	}
	s.found[at] = e
	s.Use(at)
}

func (s *Entries) makeRoom(node int) {
	keys := s.used[node]
	if len(keys) < s.most {
		return
	}
	last := len(keys) - 1
	delete(s.found, Place{node, keys[last]})
	s.used[node] = slices.Delete(keys, last, last+1)
}

// Use makes an entry that which was used last, if there is one at the place.
func (s *Entries) Use(at Place) {
	keys := s.used[at.Node]
	i := slices.Index(keys, at.Key)
	if i < 0 {
		return
	}
	copy(keys[1:i+1], keys[:i])
	keys[0] = at.Key
}

// Clear takes all entries of a cache away.
func (s *Entries) Clear(node int) {
	for _, key := range s.used[node] {
		delete(s.found, Place{node, key})
	}
	s.used[node] = nil
}
