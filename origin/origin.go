// Package origin: the values by keys that all caches have theirs from.
package origin

import (
	"strings"

	"estuary/api"
	"estuary/words"
)

// Record is what the origin has for a key: how often it was written or removed, and its value, if it is present (1, else 0).
type Record struct {
	Version, Present int
	Value            string
}

// Origin has a record for each key that was ever written.
type Origin struct {
	records map[string]Record
}

// New makes an origin that has no keys.
func New() *Origin {
	return &Origin{records: map[string]Record{}}
}

// At tells the record of a key.
func (o *Origin) At(key string) Record {
	return o.records[key]
}

// Write gives a key a value.
func (o *Origin) Write(key string, value string) api.Errno {
	if !words.IsKey(key) {
		return api.ErrKey
	}
	if !words.IsValue(value) {
		return api.ErrValue
	}
	old, known := o.records[key]
	if !known && len(o.records) >= api.MaxKeys {
		return api.ErrFull
	}
	// Clones, so that the origin does not hold on to a longer text that the caller cut these from.
	o.records[strings.Clone(key)] = Record{Version: old.Version + 1, Present: 1, Value: strings.Clone(value)}
	return api.OK
}

// Remove takes a key's value away. Its record stays, as its version must go on.
func (o *Origin) Remove(key string) api.Errno {
	if !words.IsKey(key) {
		return api.ErrKey
	}
	old := o.records[key]
	if old.Present == 0 {
		return api.ErrNone
	}
	o.records[key] = Record{Version: old.Version + 1}
	return api.OK
}
