package wire

import (
	"encoding/binary"
	"math"
	"math/rand"
	"strings"
	"testing"

	"estuary/api"
)

// samples has a message of each kind that is right whichever of its numbers is set to another that its kind may have.
var samples = map[int]api.Message{
	api.Fetch:  {Kind: api.Fetch, From: 2, To: 1, Key: "k", Serial: 9, Version: 4},
	api.Full:   {Kind: api.Full, From: 1, To: 2, Key: "key", Serial: 9, Version: 4, Age: 5, Present: 1},
	api.Same:   {Kind: api.Same, From: 1, To: 2, Key: "ke", Serial: 9, Version: 4, Age: 5},
	api.Refuse: {Kind: api.Refuse, From: 1, To: 2, Key: "keys", Serial: 9},
}

// packed is the layout that P3 tells, written a second way.
func packed(m api.Message) string {
	b := []byte{byte(m.Kind), byte(m.From), byte(m.To)}
	b = binary.BigEndian.AppendUint32(b, uint32(m.Serial))
	b = binary.BigEndian.AppendUint32(b, uint32(m.Version+1))
	b = append(b, binary.BigEndian.AppendUint64(nil, uint64(m.Age))[2:]...)
	return string(b) + string([]byte{byte(m.Present), byte(len(m.Key))}) + m.Key + string([]byte{byte(len(m.Value))}) + m.Value
}

// mustPack holds that m is right: Pack writes it, and Unpack reads it back.
func mustPack(t *testing.T, m api.Message) {
	t.Helper()
	want := packed(m)
	for range 2 { // the same answer each time
		if s, e := Pack(m); s != want || e != api.OK {
			t.Errorf("P3: Pack(%+v) = %q, %d, want %q", m, s, e, want)
		}
		if back, e := Unpack(want); back != m || e != api.OK {
			t.Errorf("P4: Unpack(%q) = %+v, %d, want %+v", want, back, e, m)
		}
	}
}

// mustRefuse holds that m is not right.
func mustRefuse(t *testing.T, m api.Message) {
	t.Helper()
	if s, e := Pack(m); s != "" || e != api.ErrWire {
		t.Errorf("P3: Pack(%+v) = %q, %d, want ErrWire", m, s, e)
	}
}

func mustNotUnpack(t *testing.T, s string) {
	t.Helper()
	if m, e := Unpack(s); m != (api.Message{}) || e != api.ErrWire {
		t.Errorf("P4: Unpack(%q) = %+v, %d, want ErrWire", s, m, e)
	}
}

func TestLayout(t *testing.T) {
	m := api.Message{Kind: api.Full, From: 3, To: 4, Key: "ab", Serial: 0x01020304, Version: 0x05060707, Age: 0x090a0b0c0d0e, Present: 1, Value: "v\x00\xff"}
	want := "\x02\x03\x04" + "\x01\x02\x03\x04" + "\x05\x06\x07\x08" + "\x09\x0a\x0b\x0c\x0d\x0e" + "\x01" + "\x02ab" + "\x03v\x00\xff"
	if s, e := Pack(m); s != want || e != api.OK {
		t.Errorf("P3: Pack(%+v) = %q, %d, want %q", m, s, e, want)
	}
	for _, m := range samples {
		mustPack(t, m)
	}
}

func TestBoundsOfEachKind(t *testing.T) {
	from := func(m *api.Message) *int { return &m.From }
	to := func(m *api.Message) *int { return &m.To }
	serial := func(m *api.Message) *int { return &m.Serial }
	version := func(m *api.Message) *int { return &m.Version }
	age := func(m *api.Message) *int { return &m.Age }
	present := func(m *api.Message) *int { return &m.Present }
	type row struct {
		kind        int
		field       func(m *api.Message) *int
		least, most int
	}
	rows := []row{
		{api.Fetch, version, -1, 1<<31 - 1}, {api.Fetch, age, 0, 0}, {api.Fetch, present, 0, 0},
		{api.Full, version, 0, 1<<31 - 1}, {api.Full, age, 0, 1<<48 - 1}, {api.Full, present, 0, 1},
		{api.Same, version, 0, 1<<31 - 1}, {api.Same, age, 0, 1<<48 - 1}, {api.Same, present, 0, 0},
		{api.Refuse, version, 0, 0}, {api.Refuse, age, 0, 0}, {api.Refuse, present, 0, 0},
	}
	for kind := range samples {
		rows = append(rows, row{kind, from, 0, 255}, row{kind, to, 0, 255}, row{kind, serial, 0, 1<<32 - 1})
	}
	for _, r := range rows {
		m := samples[r.kind]
		for _, n := range []int{r.least, r.most, (r.least + r.most) / 2} {
			*r.field(&m) = n
			mustPack(t, m)
		}
		for _, n := range []int{r.least - 1, r.most + 1, math.MinInt, math.MaxInt, r.most + 1<<32, r.most + 1<<48, r.least - 1<<48} {
			*r.field(&m) = n
			mustRefuse(t, m)
		}
	}
}

func TestKinds(t *testing.T) {
	for _, kind := range []int{math.MinInt, -1, 0, 5, 6, 256, 257, 258, math.MaxInt} {
		for _, m := range samples {
			m.Kind = kind
			mustRefuse(t, m)
		}
	}
	for kind := range 256 {
		if kind < api.Fetch || kind > api.Refuse {
			mustNotUnpack(t, string([]byte{byte(kind)})+packed(samples[api.Refuse])[1:])
		}
	}
}

func TestKeyOfMessage(t *testing.T) {
	for _, m := range samples {
		for _, key := range []string{"a", "z", "az", "abc", "zzzz"} {
			m.Key = key
			mustPack(t, m)
		}
		for _, key := range []string{"", "abcde", "A", "`", "{", "a ", "\x00", "é", "k1", strings.Repeat("a", 256), strings.Repeat("a", 257)} {
			m.Key = key
			mustRefuse(t, m)
			if len(key) < 256 {
				mustNotUnpack(t, packed(m))
			}
		}
	}
}

func TestValueOfMessage(t *testing.T) {
	full := samples[api.Full]
	for _, value := range []string{"", "v", "\x00", "\xff\xfe", strings.Repeat("v", 16), strings.Repeat("\x00", 16)} {
		full.Value = value
		mustPack(t, full)
	}
	for _, n := range []int{17, 255, 256, 257, 272} {
		full.Value = strings.Repeat("v", n)
		mustRefuse(t, full)
		if n < 256 {
			mustNotUnpack(t, packed(full))
		}
	}
	for _, m := range samples { // a value where Present is 0
		m.Present, m.Value = 0, "v"
		mustRefuse(t, m)
		mustNotUnpack(t, packed(m))
	}
	for _, kind := range []int{api.Fetch, api.Same, api.Refuse} { // a value and Present where the kind has neither
		m := samples[kind]
		m.Present, m.Value = 1, "v"
		mustRefuse(t, m)
		mustNotUnpack(t, packed(m))
	}
}

func TestUnpackOfWrongNumbers(t *testing.T) {
	for _, change := range []func(m *api.Message){
		func(m *api.Message) { m.Version = 1 << 31 },
		func(m *api.Message) { m.Version = 1<<32 - 2 },
		func(m *api.Message) { m.Present = 2 },
		func(m *api.Message) { m.Present = 255 },
	} {
		for _, m := range samples {
			change(&m)
			mustNotUnpack(t, packed(m))
		}
	}
	for kind, change := range map[int]func(m *api.Message){
		api.Fetch:  func(m *api.Message) { m.Age = 1 },
		api.Full:   func(m *api.Message) { m.Version = -1 },
		api.Same:   func(m *api.Message) { m.Version = -1 },
		api.Refuse: func(m *api.Message) { m.Version = -1 },
	} {
		m := samples[kind]
		change(&m)
		mustNotUnpack(t, packed(m))
	}
	for _, change := range []func(m *api.Message){
		func(m *api.Message) { m.Version = 1 },
		func(m *api.Message) { m.Age = 1 << 40 },
	} {
		m := samples[api.Refuse]
		change(&m)
		mustNotUnpack(t, packed(m))
	}
}

func TestUnpackOfCutAndLongBytes(t *testing.T) {
	full := samples[api.Full]
	full.Value = "value"
	for _, m := range []api.Message{samples[api.Fetch], full, samples[api.Same], samples[api.Refuse]} {
		s := packed(m)
		for n := range len(s) {
			mustNotUnpack(t, s[:n])
		}
		for _, more := range []string{"\x00", "\x01", "v", "\x01v", s, strings.Repeat("\x00", 300)} {
			mustNotUnpack(t, s+more)
		}
	}
}

// TestUnpackOfAnyBytes: whatever Unpack reads is what Pack writes, byte by byte.
func TestUnpackOfAnyBytes(t *testing.T) {
	mustBePackOrNothing := func(s string) {
		m, e := Unpack(s)
		if e == api.OK {
			if back, pe := Pack(m); back != s || pe != api.OK {
				t.Errorf("P4: Unpack(%q) = %+v, of which the Pack is %q, %d", s, m, back, pe)
			}
		} else if e != api.ErrWire || m != (api.Message{}) {
			t.Errorf("P4: Unpack(%q) = %+v, %d, want ErrWire and nothing", s, m, e)
		}
	}
	full := samples[api.Full]
	full.Value = "value"
	for _, m := range []api.Message{samples[api.Fetch], full, samples[api.Same], samples[api.Refuse]} {
		s := packed(m)
		for place := range len(s) {
			for b := range 256 {
				changed := []byte(s)
				changed[place] = byte(b)
				mustBePackOrNothing(string(changed))
			}
		}
	}
	r := rand.New(rand.NewSource(1))
	for range 20000 {
		b := make([]byte, r.Intn(48))
		for i := range b {
			b[i] = byte(r.Intn(256) >> r.Intn(9))
		}
		mustBePackOrNothing(string(b))
	}
	mustBePackOrNothing(strings.Repeat("\xff", 1<<16))
}
