package sample

import (
	"bytes"
	"slices"
)

// Kinds returns n bytes, each one of as many different ones as kinds says: choose(k) returns a number from 0 to k - 1.
func Kinds(choose func(k int) int, n, kinds int) []byte {
	first := choose(257 - kinds)
	b := make([]byte, n)
	for i := range b {
		b[i] = byte(first + choose(kinds))
	}
	return b
}

// Texts returns texts of n bytes in which parts stand at many places, or are hard to find, with their descriptions:
// choose(k) returns a number from 0 to k - 1.
func Texts(choose func(k int) int, n int) map[string][]byte {
	repeated := func(part []byte) []byte { return bytes.Repeat(part, n/len(part)+1)[:n] }
	last := repeated([]byte{7})
	if n > 0 {
		last[n-1] = 8
	}
	return map[string][]byte{
		"bytes 0":               repeated([]byte{0}),
		"bytes 255":             repeated([]byte{255}),
		"one other at the end":  last,
		"two in turn":           repeated([]byte{1, 0}),
		"three in turn":         repeated([]byte{128, 127, 129}),
		"all bytes, increasing": counting(n, 0, 1),
		"all bytes, decreasing": counting(n, 255, 255),
		"all bytes, mixed":      counting(n, 127, 101),
		"Fibonacci":             fibonacci(n),
		"two kinds":             Kinds(choose, n, 2),
		"four kinds":            Kinds(choose, n, 4),
		"256 kinds":             Kinds(choose, n, 256),
		"a part again":          repeated(Kinds(choose, n/2+1, 256)),
		"a short part again":    repeated(Kinds(choose, 37, 3)),
	}
}

// counting returns n bytes from first on, each step more than the one before.
func counting(n int, first, step byte) []byte {
	b := make([]byte, n)
	for i := range b {
		b[i] = first + byte(i)*step
	}
	return b
}

// fibonacci returns the first n bytes of the text a, ab, aba, abaab, .. of which each is made of the two before.
func fibonacci(n int) []byte {
	a, b := []byte("a"), []byte("ab")
	for len(b) < n {
		a, b = b, slices.Concat(b, a)
	}
	return b[:n]
}
