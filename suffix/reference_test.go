package suffix_test

import (
	"bytes"
	"math/rand/v2"
	"slices"

	"inlay/api"
)

// What follows is written from the chapter alone, the plainest way, so that it is a second opinion.

// orderOf returns the order of b.
func orderOf(b []byte) []int {
	var l []int
	for i := range b {
		l = append(l, i)
	}
	slices.SortFunc(l, func(i, j int) int { return bytes.Compare(b[i:], b[j:]) })
	return l
}

// longestOf tries all beginnings of s.
func longestOf(b, s []byte) api.Found {
	for n := len(s); n > 0; n-- {
		if at := bytes.Index(b, s[:n]); at >= 0 {
			return api.Found{At: at, Len: n}
		}
	}
	return api.Found{}
}

// inCommon counts the bytes that a and b have in common at their beginnings.
func inCommon(a, b []byte) int {
	n := 0
	for n < min(len(a), len(b)) && a[n] == b[n] {
		n++
	}
	return n
}

// commonOf compares each suffix in the order with the one before.
func commonOf(b []byte) []int {
	var l []int
	order := orderOf(b)
	for k, i := range order {
		if k == 0 {
			l = append(l, 0)
			continue
		}
		l = append(l, inCommon(b[order[k-1]:], b[i:]))
	}
	return l
}

// someText returns n bytes, each one of kinds different ones.
func someText(r *rand.Rand, n, kinds int) []byte {
	first := r.IntN(257 - kinds)
	b := make([]byte, n)
	for i := range b {
		b[i] = byte(first + r.IntN(kinds))
	}
	return b
}

// counting returns n bytes from first on, each step more than the one before.
func counting(n int, first, step byte) []byte {
	b := make([]byte, n)
	for i := range b {
		b[i] = first + byte(i)*step
	}
	return b
}

// fibonacci returns the first n bytes of the text a, ab, aba, abaab, .. of which each is made of the two before.
func fibonacci(n int) []byte {
	a, b := []byte("a"), []byte("ab")
	for len(b) < n {
		a, b = b, slices.Concat(b, a)
	}
	return b[:n]
}

// textsOf returns texts of n bytes which an order may find hard, with their descriptions.
func textsOf(n int) map[string][]byte {
	r := rand.New(rand.NewPCG(4, 1))
	repeated := func(part []byte) []byte { return bytes.Repeat(part, n/len(part)+1)[:n] }
	last := repeated([]byte{7})
	if n > 0 {
		last[n-1] = 8
	}
	return map[string][]byte{
		"bytes 0":               repeated([]byte{0}),
		"bytes 255":             repeated([]byte{255}),
		"one other at the end":  last,
		"two in turn":           repeated([]byte{1, 0}),
		"three in turn":         repeated([]byte{128, 127, 129}),
		"all bytes, increasing": counting(n, 0, 1),
		"all bytes, decreasing": counting(n, 255, 255),
		"all bytes, mixed":      counting(n, 127, 101),
		"Fibonacci":             fibonacci(n),
		"two kinds":             someText(r, n, 2),
		"four kinds":            someText(r, n, 4),
		"256 kinds":             someText(r, n, 256),
		"a part again":          repeated(someText(r, n/2+1, 256)),
		"a short part again":    repeated(someText(r, 37, 3)),
	}
}
