package hash_test

import (
	"bytes"
	"math/rand/v2"
	"slices"
	"testing"

	"inlay/api"
	"inlay/hash"
	"inlay/sample"
)

// P15.3: each other chunk is refused, with the proof that is accepted for the right one.
func TestChangedChunks(t *testing.T) {
	r := rand.New(rand.NewPCG(15, 10))
	for n := 1; n < 18; n++ {
		l := anyChunks(r, n)
		root := hash.Root(l)
		for i, chunk := range l {
			proof := sample.Must(hash.Proof(l, i))
			for k := range 8 * len(chunk) {
				other := bytes.Clone(chunk)
				other[k/8] ^= 1 << (k % 8)
				refuse(t, "another bit", root, n, i, other, proof)
			}
			for k := range chunk {
				refuse(t, "a beginning", root, n, i, chunk[:k], proof)
				refuse(t, "an end", root, n, i, chunk[k+1:], proof)
			}
			for _, x := range []byte{0, 1, 128, 255} {
				refuse(t, "a byte more", root, n, i, append(bytes.Clone(chunk), x), proof)
				refuse(t, "a byte before", root, n, i, append([]byte{x}, chunk...), proof)
			}
		}
	}
}

// P15.3: each other proof is refused, and each other root.
func TestChangedProofs(t *testing.T) {
	for n := 1; n < 10; n++ {
		l := numbered(n)
		root := hash.Root(l)
		for i, chunk := range l {
			proof := sample.Must(hash.Proof(l, i))
			for k := range proof {
				for bit := range 8 * len(api.Sum{}) {
					other := slices.Clone(proof)
					other[k][bit/8] ^= 1 << (bit % 8)
					refuse(t, "another bit", root, n, i, chunk, other)
				}
			}
			for bit := range 8 * len(root) {
				other := root
				other[bit/8] ^= 1 << (bit % 8)
				refuse(t, "another root", other, n, i, chunk, proof)
			}
			for k := range proof {
				other := slices.Clone(proof)
				other[0], other[k] = other[k], other[0]
				if k > 0 {
					refuse(t, "another order", root, n, i, chunk, other)
				}
			}
		}
	}
}

// P15.3: chunks and proofs of other places are refused.
func TestOtherPlaces(t *testing.T) {
	for n := 2; n < 20; n++ {
		l := numbered(n)
		root := hash.Root(l)
		for i, chunk := range l {
			proof := sample.Must(hash.Proof(l, i))
			for k := range l {
				if k != i {
					refuse(t, "another place", root, n, k, chunk, proof)
					refuse(t, "another chunk", root, n, k, chunk, sample.Must(hash.Proof(l, k)))
					refuse(t, "another proof", root, n, k, l[k], proof)
				}
			}
		}
	}
}

// P15.3: of equal chunks, each is accepted with the same proofs as the others, if these are for its own side.
func TestEqualChunks(t *testing.T) {
	l := slices.Repeat(texts("x"), 8)
	root := hash.Root(l)
	for i := range l {
		for k := range l {
			if !compare(t, root, 8, i, l[i], sample.Must(hash.Proof(l, k))) {
				t.Errorf("the proof for %d is refused for %d", k, i)
			}
		}
	}
}

// elementsOf returns the elements of all levels of the tree over l.
func elementsOf(l [][]byte) []api.Sum {
	if len(l) == 1 {
		return []api.Sum{leafOf(l[0])}
	}
	k := firstPart(len(l))
	return append(slices.Concat(elementsOf(l[:k]), elementsOf(l[k:])), rootOf(l))
}

// eachList calls f with all lists of up to n of these hashes.
func eachList(n int, of []api.Sum, f func(l []api.Sum)) {
	var extend func(l []api.Sum)
	extend = func(l []api.Sum) {
		f(l)
		if len(l) == n {
			return
		}
		for _, x := range of {
			extend(append(l[:len(l):len(l)], x))
		}
	}
	extend(nil)
}

// P15.3: of all lists of elements, one is a proof for a place, with one chunk: its own, not what a pair is made of.
func TestOnlyOneProof(t *testing.T) {
	for n := 1; n <= 5; n++ {
		l := numbered(n)
		root := rootOf(l)
		elements := append(elementsOf(l), api.Sum{})
		chunks := append(slices.Clone(l), nil)
		for k, x := range elements[:len(elements)-1] {
			y := elements[k+1]
			chunks = append(chunks, x[:], slices.Concat(x[:], y[:]), slices.Concat([]byte{1}, x[:], y[:]))
		}
		accepted := 0
		eachList(3, elements, func(proof []api.Sum) {
			for i := range n {
				for k, chunk := range chunks {
					if !hash.Check(root, n, i, chunk, proof) {
						continue
					}
					accepted++
					if k != i || !slices.Equal(proof, proofOf(l, i)) {
						t.Fatalf("the proof %x for %d of %d, with the chunk %x", proof, i, n, chunk)
					}
				}
			}
		})
		if accepted != n {
			t.Errorf("%d chunks: %d proofs are accepted", n, accepted)
		}
	}
}

// P15.3: a pair is no leaf, for any bytes before what it is made of, also where a tree with fewer chunks has a leaf.
func TestPairsAsChunks(t *testing.T) {
	l := numbered(4)
	root := hash.Root(l)
	ab, cd := elementsOf(l)[2], elementsOf(l)[5]
	if root != pairOf(ab, cd) {
		t.Fatal("these are not the parts of the tree")
	}
	a, b := leafOf(l[0]), leafOf(l[1])
	for _, before := range [][]byte{nil, {0}, {1}, {2}, {0, 1}, {1, 0}} {
		first := slices.Concat(before, a[:], b[:])
		refuse(t, "a pair of leaves", root, 2, 0, first, []api.Sum{cd})
		refuse(t, "a pair of leaves", root, 3, 0, first, []api.Sum{cd})
		refuse(t, "a pair of leaves", root, 4, 0, first, []api.Sum{cd})
		whole := slices.Concat(before, ab[:], cd[:])
		refuse(t, "the root", root, 1, 0, whole, nil)
		refuse(t, "the root", root, 4, 0, whole, nil)
	}
	refuse(t, "a list that begins with the mark of leaves", sumOf(l[0]), 1, 0, l[0], nil)
	refuse(t, "no chunk", sumOf(), 1, 0, nil, nil)
}

// P15.1 (O5), P15.3: random changes of all arguments, compared with the reference.
func TestAnyClaims(t *testing.T) {
	r := rand.New(rand.NewPCG(15, 11))
	accepted, refused := 0, 0
	for range 20000 {
		n := 1 + r.IntN(12)
		l := anyChunks(r, n)
		i := r.IntN(n)
		root, chunk, proof := rootOf(l), l[i], slices.Clone(proofOf(l, i))
		switch r.IntN(8) {
		case 0:
			n += r.IntN(3) - 1
		case 1:
			i += r.IntN(3) - 1
		case 2:
			chunk = l[r.IntN(len(l))]
		case 3:
			proof = append(proof, anySum(r))[r.IntN(2):]
		case 4:
			for k := range proof {
				proof[k] = leafOf(l[r.IntN(len(l))])
			}
		case 5:
			slices.Reverse(proof)
		case 6:
			root = rootOf(l[:1+r.IntN(len(l))])
		}
		if compare(t, root, n, i, chunk, proof) {
			accepted++
		} else {
			refused++
		}
	}
	if accepted < 4000 || refused < 6000 {
		t.Errorf("%d were accepted, and %d refused", accepted, refused)
	}
}
