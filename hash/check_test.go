package hash_test

import (
	"math"
	"math/rand/v2"
	"slices"
	"testing"

	"inlay/api"
	"inlay/hash"
	"inlay/sample"
)

// refuse checks that a proof is not accepted.
func refuse(t *testing.T, what string, root api.Sum, n, i int, chunk []byte, proof []api.Sum) {
	t.Helper()
	if hash.Check(root, n, i, chunk, proof) {
		t.Fatalf("%s: the proof %x for the chunk %d of %d is accepted", what, proof, i, n)
	}
}

// compare checks that a proof is accepted exactly if it fits. It reports whether it does.
func compare(t *testing.T, root api.Sum, n, i int, chunk []byte, proof []api.Sum) bool {
	t.Helper()
	want := fits(root, n, i, chunk, proof)
	if got := hash.Check(root, n, i, chunk, proof); got != want {
		t.Fatalf("the proof %x for the chunk %d of %d is accepted: %v, want %v", proof, i, n, got, want)
	}
	return want
}

// P15.5: proofs of other lengths, with elements of any kind too many.
func TestOtherLengths(t *testing.T) {
	r := rand.New(rand.NewPCG(15, 8))
	eachTree(func(l [][]byte) {
		root, n := hash.Root(l), len(l)
		for i, chunk := range l {
			proof := sample.Must(hash.Proof(l, i))
			for k := range proof {
				refuse(t, "a beginning", root, n, i, chunk, proof[:k])
				refuse(t, "an end", root, n, i, chunk, proof[k+1:])
				refuse(t, "one is missing", root, n, i, chunk, slices.Delete(slices.Clone(proof), k, k+1))
			}
			for _, x := range []api.Sum{{}, root, hash.Leaf(chunk), anySum(r)} {
				for k := range len(proof) + 1 {
					refuse(t, "one more", root, n, i, chunk, slices.Insert(slices.Clone(proof), k, x))
				}
			}
			refuse(t, "many more", root, n, i, chunk, append(slices.Clone(proof), make([]api.Sum, 100)...))
		}
	})
}

// P15.5: proofs that would lead to a root if they ended before, or went on behind, the highest level.
func TestOtherHighestLevels(t *testing.T) {
	for n := 1; n < 20; n++ {
		l := numbered(n)
		for i, chunk := range l {
			proof := sample.Must(hash.Proof(l, i))
			for k := range proof {
				refuse(t, "it ends before", way(n, i, chunk, proof[:k]), n, i, chunk, proof[:k])
			}
			root, x := hash.Root(l), leafOf([]byte("x"))
			if way(n, i, chunk, proof) != root {
				t.Fatalf("the chunk %d of %d does not lead to the root", i, n)
			}
			refuse(t, "it goes on", pairOf(root, x), n, i, chunk, append(slices.Clone(proof), x))
			refuse(t, "it goes on", pairOf(x, root), n, i, chunk, append(slices.Clone(proof), x))
		}
	}
}

// way returns the element to which the chunk i of n leads with the first elements of its proof.
func way(n, i int, chunk []byte, proof []api.Sum) api.Sum {
	element := leafOf(chunk)
	for _, x := range proof {
		for i%2 == 0 && i == n-1 { // there is no neighbor at this level
			i, n = i/2, (n+1)/2
		}
		if i%2 == 0 {
			element = pairOf(element, x)
		} else {
			element = pairOf(x, element)
		}
		i, n = i/2, (n+1)/2
	}
	return element
}

// P15.5: places outside, and numbers of chunks for which a place is outside.
func TestPlacesOutside(t *testing.T) {
	eachTree(func(l [][]byte) {
		root, n := hash.Root(l), len(l)
		for i, chunk := range l {
			proof := sample.Must(hash.Proof(l, i))
			for _, k := range []int{i - n, i + n, -i - 1, n, n + 1, i + 1<<32, i - 1<<32, math.MaxInt, math.MinInt} {
				refuse(t, "a place outside", root, n, k, chunk, proof)
			}
			for _, k := range []int{i, 0, -1, -n, n - 1<<32, math.MinInt} {
				refuse(t, "too few chunks", root, k, i, chunk, proof)
			}
		}
	})
}

// P15.5: no chunks have no proof, also not with the root of no chunks.
func TestProofsOfNothing(t *testing.T) {
	for _, root := range []api.Sum{{}, hash.Root(nil), leafOf(nil), leafOf([]byte("a"))} {
		for _, n := range []int{0, -1, -5, math.MinInt} {
			for _, i := range []int{n - 1, n, n + 1, -1, 0, 1, math.MaxInt} {
				refuse(t, "no chunks", root, n, i, nil, nil)
				refuse(t, "no chunks", root, n, i, []byte("a"), nil)
				refuse(t, "no chunks", root, n, i, nil, []api.Sum{root})
			}
		}
	}
}

// P15.1 (O5), P15.5: all numbers of chunks, places and lengths of proofs that are near to each other.
func TestOtherShapes(t *testing.T) {
	accepted := 0
	for n := range 18 {
		l := numbered(n)
		for i, chunk := range l {
			root, proof := hash.Root(l), sample.Must(hash.Proof(l, i))
			for other := -1; other < 20; other++ {
				for place := -1; place < 20; place++ {
					if compare(t, root, other, place, chunk, proof) {
						accepted++
					}
				}
			}
		}
	}
	if accepted < 200 {
		t.Errorf("only %d were accepted", accepted)
	}
}

// placesOf returns places of a tree over n chunks.
func placesOf(r *rand.Rand, n int) []int {
	half := firstPart(n)
	return []int{0, 1, half - 1, half, n - 1, n - 2, n / 2, r.IntN(n), r.IntN(n), r.IntN(n)}
}

// P15.1 (O5), P1: numbers of chunks up to the greatest ones. There are no such lists, but roots for proofs.
func TestGreatTrees(t *testing.T) {
	r := rand.New(rand.NewPCG(15, 9))
	for _, n := range []int{
		2, 65535, 65536, 65537, 3 << 20, 1<<30 - 1, 1 << 30, 1<<30 + 1, 1<<31 - 3, 1<<31 - 2, 1<<31 - 1,
		1 << 31, 1<<31 + 1, 1 << 62, math.MaxInt - 1, math.MaxInt, // more than it must be able to
	} {
		for _, i := range placesOf(r, n) {
			chunk := sample.Kinds(r.IntN, r.IntN(100), 256)
			var proof []api.Sum
			for range lengthOf(n, i) {
				proof = append(proof, anySum(r))
			}
			root := rootFrom(n, i, leafOf(chunk), proof)
			if !compare(t, root, n, i, chunk, proof) {
				t.Fatalf("the reference refuses the proof for %d of %d", i, n)
			}
			for _, other := range []int{-1, 0, 1, i, i + 1, n / 2, n - 1, n + 1, 1<<31 - 1, math.MaxInt, math.MinInt} {
				compare(t, root, other, i, chunk, proof)
				compare(t, root, n, other, chunk, proof)
			}
			refuse(t, "another chunk", root, n, i, append(chunk, 0), proof)
			refuse(t, "too long", root, n, i, chunk, append(slices.Clone(proof), api.Sum{}))
			refuse(t, "too short", root, n, i, chunk, proof[1:])
			refuse(t, "too short", root, n, i, chunk, proof[:len(proof)-1])
			refuse(t, "nothing", root, n, i, chunk, nil)
		}
	}
	refuse(t, "a great number", leafOf(nil), 1<<31-1, 0, nil, nil)
}
