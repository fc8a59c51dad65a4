// Package words: what a key and a value are.
package words

import "estuary/api"

// keyBytes has a bit for each byte that a key may have, 64 in each number.
var keyBytes = makeKeyBytes()

func makeKeyBytes() [4]uint64 {
	var set [4]uint64
	for b := byte('a'); b <= 'z'; b++ {
		set[b/64] |= 1 << (b % 64)
	}
	return set
}

func isKeyByte(b byte) bool {
	return keyBytes[b/64]>>(b%64)&1 == 1
}

// IsKey tells whether s is a key.
func IsKey(s string) bool {
	if !Within(len(s), 1, api.MaxKey) {
		return false
	}
	for i := range len(s) { // by bytes: a letter of several bytes is none of a key's
		if !isKeyByte(s[i]) {
			return false
		}
	}
	return true
}

// IsValue tells whether s is a value.
func IsValue(s string) bool {
	return len(s) <= api.MaxValue
}

// Within tells whether n is one of the numbers from least to most.
func Within(n, least, most int) bool {
	return least <= n && n <= most
}
