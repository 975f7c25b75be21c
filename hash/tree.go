package hash

import "inlay/api"

// Root returns the root of the tree over the chunks l, and the hash of no bytes if there are none.
func Root(l [][]byte) api.Sum {
	if len(l) == 0 {
		return Sum(nil)
	}
	level := leavesOf(l)
	for len(level) > 1 {
		level = above(level)
	}
	return level[0]
}

// Proof returns the proof for the chunk i.
func Proof(l [][]byte, i int) ([]api.Sum, api.Errno) {
	if i < 0 || i >= len(l) {
		return nil, api.ErrArg
	}
	var proof []api.Sum
	for level := leavesOf(l); len(level) > 1; level = above(level) {
		if k, ok := neighbor(i, len(level)); ok {
			proof = append(proof, level[k])
		}
		i /= 2
	}
	return proof, api.OK
}

// Check reports whether the proof for the chunk i of n chunks fits.
func Check(root api.Sum, n, i int, chunk []byte, proof []api.Sum) bool {
	if i < 0 || i >= n {
		return false
	}
	element := Leaf(chunk)
	for n > 1 {
		if k, ok := neighbor(i, n); ok {
			if len(proof) == 0 {
				return false
			}
			element = inOrder(element, i, proof[0], k)
			proof = proof[1:]
		}
		i /= 2
		n -= n / 2 // half of n, rounded up, also of the greatest one
	}
	return len(proof) == 0 && element == root
}

// leavesOf returns the lowest level over the chunks l.
func leavesOf(l [][]byte) []api.Sum {
	var level []api.Sum
	for _, chunk := range l {
		level = append(level, Leaf(chunk))
	}
	return level
}

// above returns the level above one.
func above(level []api.Sum) []api.Sum {
	var next []api.Sum
	for ; len(level) > 1; level = level[2:] {
		next = append(next, Pair(level[0], level[1]))
	}
	return append(next, level...)
}

// neighbor returns the index of the element of a level of n with which the element i makes a pair, and whether there is
// one.
func neighbor(i, n int) (int, bool) {
	k := i ^ 1
	return k, k < n
}

// inOrder returns the pair of two elements of a level with these indices.
func inOrder(a api.Sum, i int, b api.Sum, k int) api.Sum {
	if i < k {
		return Pair(a, b)
	}
	return Pair(b, a)
}
