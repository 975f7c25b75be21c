package hash_test

import (
	"crypto/sha256"
	"math/bits"

	"inlay/api"
)

// What follows is written from the chapter alone, with the library's hash and with trees as P15.4 describes them, so that
// it is a second opinion.

// sumOf returns the hash of what the parts have, one after the other.
func sumOf(parts ...[]byte) api.Sum {
	h := sha256.New()
	for _, b := range parts {
		h.Write(b)
	}
	return api.Sum(h.Sum(nil))
}

func leafOf(chunk []byte) api.Sum { return sumOf([]byte{0}, chunk) }

func pairOf(a, b api.Sum) api.Sum { return sumOf([]byte{1}, a[:], b[:]) }

// firstPart returns the greatest power of 2 that is less than n, which is more than 1.
func firstPart(n int) int { return 1 << (bits.Len(uint(n-1)) - 1) }

// rootOf returns the root of a tree.
func rootOf(l [][]byte) api.Sum {
	switch len(l) {
	case 0:
		return sumOf()
	case 1:
		return leafOf(l[0])
	}
	k := firstPart(len(l))
	return pairOf(rootOf(l[:k]), rootOf(l[k:]))
}

// proofOf returns the proof for the chunk i, which there is.
func proofOf(l [][]byte, i int) []api.Sum {
	if len(l) == 1 {
		return nil
	}
	k := firstPart(len(l))
	if i < k {
		return append(proofOf(l[:k], i), rootOf(l[k:]))
	}
	return append(proofOf(l[k:], i-k), rootOf(l[:k]))
}

// lengthOf returns how many elements the proof for the chunk i of n chunks has.
func lengthOf(n, i int) int {
	if n == 1 {
		return 0
	}
	k := firstPart(n)
	if i < k {
		return 1 + lengthOf(k, i)
	}
	return 1 + lengthOf(n-k, i-k)
}

// rootFrom returns the root to which the leaf i of a tree over n chunks leads with a proof of the right length.
func rootFrom(n, i int, leaf api.Sum, proof []api.Sum) api.Sum {
	if n == 1 {
		return leaf
	}
	k := firstPart(n)
	rest, last := proof[:len(proof)-1], proof[len(proof)-1]
	if i < k {
		return pairOf(rootFrom(k, i, leaf, rest), last)
	}
	return pairOf(last, rootFrom(n-k, i-k, leaf, rest))
}

// fits reports whether a proof fits.
func fits(root api.Sum, n, i int, chunk []byte, proof []api.Sum) bool {
	if i < 0 || i >= n || len(proof) != lengthOf(n, i) {
		return false
	}
	return rootFrom(n, i, leafOf(chunk), proof) == root
}
