package origin

import (
	"strings"
	"testing"

	"estuary/api"
)

func mustWrite(t *testing.T, o *Origin, want api.Errno, key, value string) {
	t.Helper()
	if e := o.Write(key, value); e != want {
		t.Errorf("P6: Write(%q, %q) = %d, want %d", key, value, e, want)
	}
}

func mustRemove(t *testing.T, o *Origin, want api.Errno, key string) {
	t.Helper()
	if e := o.Remove(key); e != want {
		t.Errorf("P6: Remove(%q) = %d, want %d", key, e, want)
	}
}

func mustHave(t *testing.T, o *Origin, key string, want Record) {
	t.Helper()
	if got := o.At(key); got != want {
		t.Errorf("P6: the record of %q is %+v, want %+v", key, got, want)
	}
}

// keyOf makes the nth of many keys.
func keyOf(n int) string {
	return string([]byte{'a' + byte(n/26), 'a' + byte(n%26)})
}

func TestNewOriginIsEmpty(t *testing.T) {
	o := New()
	for n := range 26 * 26 {
		mustHave(t, o, keyOf(n), Record{})
		mustRemove(t, o, api.ErrNone, keyOf(n))
	}
}

func TestVersionsGoOn(t *testing.T) {
	o := New()
	mustWrite(t, o, api.OK, "k", "v")
	mustHave(t, o, "k", Record{1, 1, "v"})
	mustWrite(t, o, api.OK, "k", "v") // the same value is another version, too
	mustHave(t, o, "k", Record{2, 1, "v"})
	mustRemove(t, o, api.OK, "k")
	mustHave(t, o, "k", Record{3, 0, ""})
	mustRemove(t, o, api.ErrNone, "k")
	mustHave(t, o, "k", Record{3, 0, ""})
	mustWrite(t, o, api.OK, "k", "")
	mustHave(t, o, "k", Record{4, 1, ""})
	mustRemove(t, o, api.OK, "k") // present, though its value is empty
	mustWrite(t, o, api.OK, "k", strings.Repeat("\xff", 16))
	mustHave(t, o, "k", Record{6, 1, strings.Repeat("\xff", 16)})
	mustHave(t, o, "kk", Record{})
}

func TestWrongInputsChangeNothing(t *testing.T) {
	o := New()
	mustWrite(t, o, api.OK, "k", "v")
	long := strings.Repeat("v", 17)
	for _, key := range []string{"", "abcde", "K", "k ", "é", "\x00", strings.Repeat("k", 1000)} {
		mustWrite(t, o, api.ErrKey, key, "v")
		mustWrite(t, o, api.ErrKey, key, long) // the key's error is named first
		mustRemove(t, o, api.ErrKey, key)
		mustHave(t, o, key, Record{})
	}
	mustWrite(t, o, api.ErrValue, "k", long)
	for n := range 40 {
		mustWrite(t, o, api.ErrValue, keyOf(n), long)
		mustRemove(t, o, api.ErrNone, keyOf(n))
	}
	mustHave(t, o, "k", Record{1, 1, "v"})
	for n := range 15 { // none of those took a key's room
		mustWrite(t, o, api.OK, keyOf(n), "v")
	}
}

func TestSixteenKeys(t *testing.T) {
	o := New()
	for n := range 16 {
		mustWrite(t, o, api.OK, keyOf(n), "v")
	}
	mustWrite(t, o, api.ErrFull, "z", "v")
	mustHave(t, o, "z", Record{})
	mustRemove(t, o, api.ErrNone, "z")
	mustWrite(t, o, api.ErrKey, "", "v") // what is named ahead of ErrFull
	mustWrite(t, o, api.ErrValue, "z", strings.Repeat("v", 17))
	mustRemove(t, o, api.OK, keyOf(3))
	mustWrite(t, o, api.ErrFull, "z", "v") // a removed key was written once
	mustWrite(t, o, api.OK, keyOf(3), "w")
	mustHave(t, o, keyOf(3), Record{3, 1, "w"})
	mustWrite(t, o, api.OK, keyOf(15), "w")
	for n := range 16 {
		mustRemove(t, o, api.OK, keyOf(n))
	}
	mustWrite(t, o, api.ErrFull, "z", "v")
	mustWrite(t, o, api.OK, keyOf(0), "x")
	mustHave(t, o, keyOf(0), Record{3, 1, "x"})
}

func TestOriginsAreApart(t *testing.T) {
	o, p := New(), New()
	mustWrite(t, o, api.OK, "k", "v")
	mustHave(t, p, "k", Record{})
	mustRemove(t, p, api.ErrNone, "k")
	mustHave(t, o, "k", Record{1, 1, "v"})
}
