package suffix

import "inlay/api"

// Longest returns how many of the first bytes of s stand in b at most, and the least place at which they stand.
func Longest(b []byte, order []int, s []byte) api.Found {
	best, n := closest(b, order, s)
	if n == 0 {
		return api.Found{}
	}
	// The suffixes that begin with these bytes follow each other in the order, and best is one of them.
	stands := func(k int) bool { return countEqual(suffixAt(b, order[k]), s[:n]) == n }
	from := firstOf(0, best, stands)
	to := firstOf(best+1, len(order), func(k int) bool { return !stands(k) })
	return api.Found{At: least(order[from:to]), Len: n}
}

// closest returns the index in the order of a suffix that has as many of its first bytes in common with s as any,
// and how many. It is one of the two that s would stand between, and the search looks at both of them unless it
// finds all of s before.
func closest(b []byte, order []int, s []byte) (best, n int) {
	low, high := 0, len(order)
search:
	for low < high {
		mid := low + (high-low)/2
		suffix := suffixAt(b, order[mid])
		equal := countEqual(suffix, s)
		if equal > n {
			best, n = mid, equal
		}
		switch {
		case equal == len(s):
			break search
		case equal == len(suffix) || suffix[equal] < s[equal]:
			low = mid + 1
		default:
			high = mid
		}
	}
	return best, n
}

// Common returns how many bytes each suffix has in common with the one before it in the order. It goes through the
// places, not through the order: the suffix at the next place has at most one byte less in common with the one
// before it, so that few bytes are compared twice.
func Common(b []byte, order []int) []int {
	common := make([]int, len(order))
	n := 0
	for i, k := range indicesOf(order, len(b)) {
		if k > 0 {
			n += countEqual(suffixAt(b, i+n), suffixAt(b, order[k-1]+n))
			common[k] = n
		}
		n = max(n-1, 0)
	}
	return common
}

// indicesOf returns the index in the order of each one of n places. A list that is no order may have others.
func indicesOf(order []int, n int) []int {
	indices := make([]int, n)
	for k, i := range order {
		if 0 <= i && i < n {
			indices[i] = k
		}
	}
	return indices
}

// suffixAt returns the suffix at i. It is empty where there is none: a list that is no order may say so.
func suffixAt(b []byte, i int) []byte {
	if i < 0 || i > len(b) {
		return nil
	}
	return b[i:]
}

// countEqual returns how many bytes a and b have in common at their beginnings.
func countEqual(a, b []byte) int {
	n := 0
	for n < len(a) && n < len(b) && a[n] == b[n] {
		n++
	}
	return n
}

// firstOf returns the first number from low up to high for which ok holds, where it holds for all that follow; high
// if there is none.
func firstOf(low, high int, ok func(k int) bool) int {
	for low < high {
		mid := low + (high-low)/2
		if ok(mid) {
			high = mid
		} else {
			low = mid + 1
		}
	}
	return low
}

// least returns the least one of places, of which there is at least one.
func least(places []int) int {
	at := places[0]
	for _, i := range places {
		at = min(at, i)
	}
	return at
}
