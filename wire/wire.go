// Package wire: messages as bytes.
package wire

import (
	"strings"

	"estuary/api"
	"estuary/words"
)

const (
	maxNode    = 1<<8 - 1
	maxSerial  = 1<<32 - 1
	maxVersion = 1<<31 - 1
	maxAge     = 1<<48 - 1
	noVersion  = -1 // the tag of a Fetch for what the cache has not
)

// The places of a message's numbers among its bytes; behind them come the key and the value.
const (
	atKind    = 0
	atFrom    = 1
	atTo      = 2
	atSerial  = 3
	atVersion = 7
	atAge     = 11
	atPresent = 17
	atKey     = 18
)

type bounds struct {
	leastVersion, mostVersion int
	mostAge, mostPresent      int
}

// kinds tells for each kind of message what it may have in it. (No message is of the kind 0.)
var kinds = [5]bounds{
	api.Fetch:  {leastVersion: noVersion, mostVersion: maxVersion},
	api.Full:   {mostVersion: maxVersion, mostAge: maxAge, mostPresent: 1},
	api.Same:   {mostVersion: maxVersion, mostAge: maxAge},
	api.Refuse: {},
}

// Right tells whether a message is right.
func Right(m api.Message) bool {
	if !words.Within(m.Kind, 1, len(kinds)-1) {
		return false
	}
	may := kinds[m.Kind]
	return words.Within(m.From, 0, maxNode) &&
		words.Within(m.To, 0, maxNode) &&
		words.Within(m.Serial, 0, maxSerial) &&
		words.Within(m.Version, may.leastVersion, may.mostVersion) &&
		words.Within(m.Age, 0, may.mostAge) &&
		words.Within(m.Present, 0, may.mostPresent) &&
		words.IsKey(m.Key) &&
		words.IsValue(m.Value) &&
		(m.Present == 1 || m.Value == "")
}

// Pack writes a message as bytes.
func Pack(m api.Message) (string, api.Errno) {
	if !Right(m) {
		return "", api.ErrWire
	}
	b := []byte{byte(m.Kind), byte(m.From), byte(m.To)}
	b = appendNumber(b, m.Serial, atVersion-atSerial)
	b = appendNumber(b, m.Version-noVersion, atAge-atVersion)
	b = appendNumber(b, m.Age, atPresent-atAge)
	b = append(b, byte(m.Present))
	b = appendCounted(b, m.Key)
	b = appendCounted(b, m.Value)
	return string(b), api.OK
}

func appendNumber(b []byte, n, width int) []byte {
	for i := width - 1; i >= 0; i-- {
		b = append(b, byte(n>>(8*i)))
	}
	return b
}

func appendCounted(b []byte, s string) []byte {
	b = append(b, byte(len(s)))
	return append(b, s...)
}

// Unpack reads a message.
func Unpack(s string) (api.Message, api.Errno) {
	if len(s) < atKey {
		return api.Message{}, api.ErrWire
	}
	key, rest, keyWhole := cutCounted(s[atKey:])
	value, rest, valueWhole := cutCounted(rest)
	if !keyWhole || !valueWhole || rest != "" {
		return api.Message{}, api.ErrWire
	}
	m := api.Message{
		Kind:    int(s[atKind]),
		From:    int(s[atFrom]),
		To:      int(s[atTo]),
		Key:     key,
		Serial:  number(s[atSerial:atVersion]),
		Version: number(s[atVersion:atAge]) + noVersion,
		Age:     number(s[atAge:atPresent]),
		Present: int(s[atPresent]),
		Value:   value,
	}
	if !Right(m) {
		return api.Message{}, api.ErrWire
	}
	m.Key, m.Value = strings.Clone(key), strings.Clone(value) // so that the message does not hold on to s
	return m, api.OK
}

func number(s string) int {
	n := 0
	for i := range len(s) {
		n = n<<8 | int(s[i])
	}
	return n
}

// cutCounted cuts a text with its length ahead of it off s; false, if s ends too early for that.
func cutCounted(s string) (text, rest string, whole bool) {
	if s == "" || len(s)-1 < int(s[0]) {
		return "", "", false
	}
	end := 1 + int(s[0])
	return s[1:end], s[end:], true
}
