package estuary

import (
	"reflect"
	"slices"
	"testing"

	"estuary/api"
)

func fetchOf(from, to int, key string, serial, tag int) api.Message {
	return api.Message{Kind: api.Fetch, From: from, To: to, Key: key, Serial: serial, Version: tag}
}

func fullOf(from, to int, key string, serial, version, age int, value string) api.Message {
	return api.Message{Kind: api.Full, From: from, To: to, Key: key, Serial: serial, Version: version, Age: age, Present: 1, Value: value}
}

func absentOf(from, to int, key string, serial, version, age int) api.Message {
	return api.Message{Kind: api.Full, From: from, To: to, Key: key, Serial: serial, Version: version, Age: age}
}

func sameOf(from, to int, key string, serial, version, age int) api.Message {
	return api.Message{Kind: api.Same, From: from, To: to, Key: key, Serial: serial, Version: version, Age: age}
}

func refuseOf(from, to int, key string, serial int) api.Message {
	return api.Message{Kind: api.Refuse, From: from, To: to, Key: key, Serial: serial}
}

func toldOf(node, id, version int, value string, age int) api.Answer {
	return api.Answer{Node: node, Id: id, Kind: api.Told, Version: version, Present: 1, Value: value, Age: age}
}

func refusedOf(node, id int) api.Answer {
	return api.Answer{Node: node, Id: id, Kind: api.Refused}
}

func entryOf(key string, version int, value string, age int) api.Entry {
	return api.Entry{Key: key, Version: version, Present: 1, Value: value, Age: age}
}

func mustAsk(t *testing.T, x *Tier, node, id int, key string) {
	t.Helper()
	if e := x.Ask(node, id, key); e != api.OK {
		t.Fatalf("P7: Ask(%d, %d, %q) = %d", node, id, key, e)
	}
}

func mustDeliver(t *testing.T, x *Tier, i int) {
	t.Helper()
	if e := x.Deliver(i); e != api.OK {
		t.Fatalf("P9: Deliver(%d) = %d", i, e)
	}
}

func mustWrite(t *testing.T, x *Tier, key, value string) {
	t.Helper()
	if e := x.Write(key, value); e != api.OK {
		t.Fatalf("P6: Write(%q, %q) = %d", key, value, e)
	}
}

// deliverAll lets all messages come, the first first.
func deliverAll(t *testing.T, x *Tier) {
	t.Helper()
	for n := 0; len(x.Net()) > 0; n++ {
		if n == 10000 {
			t.Fatalf("P9: messages without end: %+v", x.Net())
		}
		mustDeliver(t, x, 0)
	}
}

// deliverThis lets a message come that nobody sent: calls alone do not bring every message that the document tells of.
func deliverThis(t *testing.T, x *Tier, m api.Message) {
	t.Helper()
	x.net = append(x.net, m)
	mustDeliver(t, x, len(x.net)-1)
}

func wantNet(t *testing.T, x *Tier, want ...api.Message) {
	t.Helper()
	if got := x.Net(); !slices.Equal(got, want) {
		t.Fatalf("P9: Net() = %+v, want %+v", got, want)
	}
}

func wantAnswers(t *testing.T, x *Tier, want ...api.Answer) {
	t.Helper()
	if got := x.Answers(); !slices.Equal(got, want) {
		t.Fatalf("P10: Answers() = %+v, want %+v", got, want)
	}
}

func wantEntries(t *testing.T, x *Tier, node int, want ...api.Entry) {
	t.Helper()
	if got, e := x.Entries(node); e != api.OK || !slices.Equal(got, want) {
		t.Fatalf("P10: Entries(%d) = %+v, %d, want %+v", node, got, e, want)
	}
}

// wantUnchanged tells whether a call leaves a tier as another is to which the same was done before.
func wantUnchanged(t *testing.T, x, like *Tier) {
	t.Helper()
	if !reflect.DeepEqual(x, like) {
		t.Fatalf("P1, P2: the tier became %+v, and was %+v", x, like)
	}
}
