package words

import (
	"math"
	"strings"
	"testing"

	"estuary/api"
)

func TestKeyLengths(t *testing.T) {
	for s, want := range map[string]bool{
		"": false, "a": true, "z": true, "ab": true, "abc": true, "abcz": true, "abcde": false,
		strings.Repeat("k", 1000): false, "é": false, "aé": false, "a b": false, "a\x00": false,
	} {
		if got := IsKey(s); got != want {
			t.Errorf("IsKey(%q) = %v", s, got)
		}
	}
}

func TestKeyBytes(t *testing.T) {
	for b := range 256 {
		want := strings.Contains("abcdefghijklmnopqrstuvwxyz", string([]byte{byte(b)}))
		for place := range api.MaxKey {
			key := []byte("kkkk")
			key[place] = byte(b)
			if got := IsKey(string(key)); got != want {
				t.Errorf("IsKey(%q) = %v", key, got)
			}
		}
	}
}

func TestValue(t *testing.T) {
	for n, want := range map[int]bool{0: true, 1: true, 15: true, 16: true, 17: false, 1000: false} {
		for _, b := range []string{"v", "\x00", "\xff"} {
			if got := IsValue(strings.Repeat(b, n)); got != want {
				t.Errorf("IsValue(%d times %q) = %v", n, b, got)
			}
		}
	}
	if IsValue(strings.Repeat("é", 9)) {
		t.Error("a value of 9 letters of two bytes is longer than 16 bytes")
	}
}

func TestWithin(t *testing.T) {
	for n, want := range map[int]bool{math.MinInt: false, -3: false, -2: true, 0: true, 5: true, 6: false, math.MaxInt: false} {
		if got := Within(n, -2, 5); got != want {
			t.Errorf("Within(%d, -2, 5) = %v", n, got)
		}
	}
}
