package suffix_test

import (
	"bytes"
	"math/rand/v2"
	"slices"

	"inlay/api"
	"inlay/sample"
)

// What follows is written from the chapter alone, the plainest way, so that it is a second opinion.

// orderOf returns the order of b.
func orderOf(b []byte) []int {
	var l []int
	for i := range b {
		l = append(l, i)
	}
	slices.SortFunc(l, func(i, j int) int { return bytes.Compare(b[i:], b[j:]) })
	return l
}

// longestOf tries all beginnings of s.
func longestOf(b, s []byte) api.Found {
	for n := len(s); n > 0; n-- {
		if at := bytes.Index(b, s[:n]); at >= 0 {
			return api.Found{At: at, Len: n}
		}
	}
	return api.Found{}
}

// inCommon counts the bytes that a and b have in common at their beginnings.
func inCommon(a, b []byte) int {
	n := 0
	for n < min(len(a), len(b)) && a[n] == b[n] {
		n++
	}
	return n
}

// commonOf compares each suffix in the order with the one before.
func commonOf(b []byte) []int {
	var l []int
	order := orderOf(b)
	for k, i := range order {
		if k == 0 {
			l = append(l, 0)
			continue
		}
		l = append(l, inCommon(b[order[k-1]:], b[i:]))
	}
	return l
}

// textsOf returns texts of n bytes which an order may find hard, with their descriptions.
func textsOf(n int) map[string][]byte {
	return sample.Texts(rand.New(rand.NewPCG(4, 1)).IntN, n)
}
