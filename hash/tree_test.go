package hash_test

import (
	"bytes"
	"math"
	"math/rand/v2"
	"slices"
	"strconv"
	"testing"

	"inlay/api"
	"inlay/hash"
	"inlay/sample"
)

// texts returns chunks.
func texts(l ...string) [][]byte {
	var chunks [][]byte
	for _, s := range l {
		chunks = append(chunks, []byte(s))
	}
	return chunks
}

// numbered returns n chunks, all of which are different.
func numbered(n int) [][]byte {
	var l [][]byte
	for i := range n {
		l = append(l, []byte(strconv.Itoa(i)))
	}
	return l
}

// anyChunks returns n chunks of up to 100 bytes. Some of them are empty, nil, or equal.
func anyChunks(r *rand.Rand, n int) [][]byte {
	l := make([][]byte, n)
	for i := range l {
		switch r.IntN(5) {
		case 0:
			l[i] = sample.Kinds(r.IntN, r.IntN(3), 2)
		case 1, 2, 3:
			l[i] = sample.Kinds(r.IntN, r.IntN(101), 256)
		}
	}
	return l
}

// eachTree calls f with chunks of all numbers up to 34, and of some greater ones.
func eachTree(f func(l [][]byte)) {
	r := rand.New(rand.NewPCG(15, 6))
	for n := range 35 {
		f(numbered(n))
		f(anyChunks(r, n))
		f(slices.Repeat(texts("x"), n))
	}
	for _, n := range []int{63, 64, 65, 128, 129, 257} {
		f(numbered(n))
	}
}

// P15.1 (O3, O4): the examples of the chapter.
func TestExamples(t *testing.T) {
	abc := texts("a", "b", "c")
	if got := hash.Root(abc); got != sumFrom(t, "36642e73c2540ab121e3a6bf9545b0a24982cd830eb13d3cd19de3ce6c021ec1") {
		t.Errorf("the root is %x", got)
	}
	proof, e := hash.Proof(abc, 2)
	want := sumFrom(t, "b137985ff484fb600db93107c77b0365c80d78f5b429ded0fd97361d077999eb")
	if e != api.OK || !slices.Equal(proof, []api.Sum{want}) {
		t.Errorf("the proof for c is %x, error %d", proof, e)
	}
	if proof, e := hash.Proof(abc, 3); e != api.ErrArg || len(proof) != 0 {
		t.Errorf("the proof for the chunk 3 is %x, error %d", proof, e)
	}
}

// P15.1 (O3, O4): trees that are worked out by hand.
func TestSmallTrees(t *testing.T) {
	l := texts("", "one", "two", "three", "four", "five", "six")
	leaf := make([]api.Sum, len(l))
	for i, chunk := range l {
		leaf[i] = leafOf(chunk)
	}
	ab, cd, ef := pairOf(leaf[0], leaf[1]), pairOf(leaf[2], leaf[3]), pairOf(leaf[4], leaf[5])
	abcd := pairOf(ab, cd)
	efg := pairOf(ef, leaf[6])
	for n, c := range []struct {
		root   api.Sum
		proofs [][]api.Sum
	}{
		{sumOf(), nil},
		{leaf[0], [][]api.Sum{nil}},
		{ab, [][]api.Sum{{leaf[1]}, {leaf[0]}}},
		{pairOf(ab, leaf[2]), [][]api.Sum{{leaf[1], leaf[2]}, {leaf[0], leaf[2]}, {ab}}},
		{abcd, [][]api.Sum{{leaf[1], cd}, {leaf[0], cd}, {leaf[3], ab}, {leaf[2], ab}}},
		{pairOf(abcd, leaf[4]), [][]api.Sum{{leaf[1], cd, leaf[4]}, {leaf[0], cd, leaf[4]}, {leaf[3], ab, leaf[4]}, {leaf[2], ab, leaf[4]}, {abcd}}},
		{pairOf(abcd, ef), [][]api.Sum{{leaf[1], cd, ef}, {leaf[0], cd, ef}, {leaf[3], ab, ef}, {leaf[2], ab, ef}, {leaf[5], abcd}, {leaf[4], abcd}}},
		{pairOf(abcd, efg), [][]api.Sum{{leaf[1], cd, efg}, {leaf[0], cd, efg}, {leaf[3], ab, efg}, {leaf[2], ab, efg}, {leaf[5], leaf[6], abcd}, {leaf[4], leaf[6], abcd}, {ef, abcd}}},
	} {
		if got := hash.Root(l[:n]); got != c.root {
			t.Errorf("%d chunks: the root is %x, want %x", n, got, c.root)
		}
		for i, want := range c.proofs {
			proof, e := hash.Proof(l[:n], i)
			if e != api.OK || !slices.Equal(proof, want) || !hash.Check(c.root, n, i, l[i], want) {
				t.Errorf("%d chunks: the proof for %d is %x, error %d, want %x", n, i, proof, e, want)
			}
		}
	}
}

// P15.1 (O3), P15.4: roots are those of the reference, and pairs of those of their parts, of no other parts.
func TestRoots(t *testing.T) {
	eachTree(func(l [][]byte) {
		root := hash.Root(l)
		if want := rootOf(l); root != want {
			t.Fatalf("%d chunks: the root is %x, want %x", len(l), root, want)
		}
		if len(l) < 2 {
			return
		}
		k := firstPart(len(l))
		if hash.Pair(hash.Root(l[:k]), hash.Root(l[k:])) != root {
			t.Errorf("%d chunks: the root is not the pair of those of %d and of the others", len(l), k)
		}
	})
	for n := 2; n < 40; n++ {
		l := numbered(n)
		for k := range n + 1 {
			isPair := hash.Pair(hash.Root(l[:k]), hash.Root(l[k:])) == hash.Root(l)
			if isPair != (k == firstPart(n)) {
				t.Errorf("the parts of %d and %d chunks: %v", k, n-k, isPair)
			}
		}
	}
}

// P15.4: powers of 2 that are numbers of chunks, and their neighbors, up to those of a long list.
func TestRootsOfManyChunks(t *testing.T) {
	l := numbered(1 << 13)
	for _, n := range []int{1000, 1023, 1024, 1025, 4095, 4096, 4097, 8191, 8192} {
		k := firstPart(n)
		root := hash.Root(l[:n])
		if root != rootOf(l[:n]) || root != hash.Pair(hash.Root(l[:k]), hash.Root(l[k:n])) {
			t.Errorf("%d chunks: the root is %x", n, root)
		}
	}
}

// P15.1 (O4), P15.2: the proof for each chunk is that of the reference, and is accepted at its place.
func TestProofs(t *testing.T) {
	eachTree(func(l [][]byte) {
		root := hash.Root(l)
		for i, chunk := range l {
			proof, e := hash.Proof(l, i)
			if want := proofOf(l, i); e != api.OK || !slices.Equal(proof, want) {
				t.Fatalf("%d chunks: the proof for %d is %x, error %d, want %x", len(l), i, proof, e, want)
			}
			if len(proof) != lengthOf(len(l), i) {
				t.Fatalf("%d chunks: the proof for %d has %d elements", len(l), i, len(proof))
			}
			if !hash.Check(root, len(l), i, chunk, proof) {
				t.Fatalf("%d chunks: the proof for %d is refused", len(l), i)
			}
		}
	})
}

// P15.1 (O4): there is no proof for a chunk that there is not.
func TestNoProofs(t *testing.T) {
	for n := range 10 {
		l := numbered(n)
		for _, i := range []int{-1, -2, -n - 1, n, n + 1, 2*n + 1, 1 << 32, -1 << 32, math.MaxInt, math.MinInt} {
			if proof, e := hash.Proof(l, i); e != api.ErrArg || len(proof) != 0 {
				t.Errorf("%d chunks: the proof for %d is %x, error %d, want ErrArg", n, i, proof, e)
			}
		}
	}
	if proof, e := hash.Proof(nil, 0); e != api.ErrArg || len(proof) != 0 {
		t.Errorf("no chunks: the proof for 0 is %x, error %d, want ErrArg", proof, e)
	}
}

// cloned returns l with memory of its own, and bytes behind each chunk and behind the last one.
func cloned(l [][]byte) [][]byte {
	var other [][]byte
	for _, chunk := range l {
		other = append(other, append(bytes.Clone(chunk), 1, 2, 3)[:len(chunk)])
	}
	return append(other, []byte("behind"), []byte("behind"))[:len(l)]
}

// whole returns the memory of l, also behind each chunk and behind the last one.
func whole(l [][]byte) [][]byte {
	var all [][]byte
	for _, chunk := range l[:cap(l)] {
		all = append(all, bytes.Clone(chunk[:cap(chunk)]))
	}
	return all
}

// P2 (O6): arguments stay as they are, results are new memory, and the same call has the same result.
func TestArguments(t *testing.T) {
	r := rand.New(rand.NewPCG(15, 7))
	for n := range 34 {
		l := cloned(anyChunks(r, n))
		before := whole(l)
		root := hash.Root(l)
		for i, chunk := range l {
			proof := sample.Must(hash.Proof(l, i))
			long := append(slices.Clone(proof), anySum(r), anySum(r))
			kept := slices.Clone(long)
			if !hash.Check(root, n, i, chunk, long[:len(proof)]) || hash.Check(root, n, i, chunk, long) {
				t.Fatalf("%d chunks: the proof for %d", n, i)
			}
			if !slices.Equal(long, kept) {
				t.Fatalf("%d chunks: Check changes the proof for %d", n, i)
			}
			for k := range proof {
				proof[k][0]++ // this is no one else's memory
			}
			if again := sample.Must(hash.Proof(l, i)); !slices.Equal(again, kept[:len(proof)]) || hash.Root(l) != root {
				t.Fatalf("%d chunks: another proof for %d", n, i)
			}
			hash.Leaf(chunk)
			hash.Sum(chunk)
		}
		if !slices.EqualFunc(before, whole(l), bytes.Equal) {
			t.Fatalf("%d chunks have changed", n)
		}
	}
}
