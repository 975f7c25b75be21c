package match_test

import (
	"bytes"
	"math"
	"math/rand/v2"
	"testing"

	"inlay/api"
	"inlay/match"
	"inlay/patch"
	"inlay/sample"
)

// What follows is written from the chapters alone, the plainest way, so that it is a second opinion.

// costOf returns what the cheapest single operation costs that makes some bytes of old.
func costOf(old, made []byte) int {
	cost := 2 + len(made) // Lit
	if len(made) <= len(old) {
		cost = min(cost, 4+len(made)) // Diff
	}
	if bytes.Contains(old, made) || bytes.Count(made, made[:1]) == len(made) {
		cost = min(cost, 4) // Copy, Run
	}
	return cost
}

// leastOf returns the least cost from old to new, of all ways to cut new into operations.
func leastOf(old, new []byte) int {
	least := make([]int, len(new)+1)
	for to := 1; to <= len(new); to++ {
		least[to] = math.MaxInt
		for from := range to {
			least[to] = min(least[to], least[from]+costOf(old, new[from:to]))
		}
	}
	return least[len(new)]
}

// check checks that p is a right patch with this Lifted that makes new of old. It returns the cost.
func check(t *testing.T, old, new []byte, p api.Patch, lifted bool) int {
	t.Helper()
	if n, e := patch.Check(p); e != api.OK || p.Lifted != lifted {
		t.Fatalf("%d bytes of %d: the patch is not right at %d: %v", len(new), len(old), n, p)
	}
	if !lifted && (p.In != len(old) || p.Out != len(new)) {
		t.Fatalf("%d bytes of %d: the patch is for %d, and makes %d", len(new), len(old), p.In, p.Out)
	}
	if b, e := patch.Apply(old, p); e != api.OK || !bytes.Equal(b, new) {
		t.Fatalf("%d bytes of %d: error %d, or other bytes", len(new), len(old), e)
	}
	return patch.Cost(p)
}

// costOfPlain returns the cost of the patch of Plain, which must be right.
func costOfPlain(t *testing.T, old, new []byte) int {
	t.Helper()
	p, e := match.Plain(old, new)
	if e != api.OK {
		t.Fatalf("Plain of %d bytes to %d: error %d", len(old), len(new), e)
	}
	return check(t, old, new, p, false)
}

// costOfCode returns the cost of the patch of Code, which must be right.
func costOfCode(t *testing.T, old, new []byte) int {
	t.Helper()
	p, e := match.Code(old, new)
	if e != api.OK {
		t.Fatalf("Code of %d bytes to %d: error %d", len(old), len(new), e)
	}
	return check(t, old, new, p, true)
}

// partsOf returns up to n parts of old, one after the other, and between some of them other bytes, and what a patch
// that copies the parts costs at most.
func partsOf(r *rand.Rand, old []byte, n int, of string) (b []byte, cost int) {
	for range n {
		from := r.IntN(len(old))
		part := old[from : from+1+r.IntN(min(len(old)-from, 40))]
		other := sample.Text(r.IntN, r.IntN(6), of)
		if len(b)+len(part)+len(other) > api.MaxImage {
			break
		}
		b = append(b, part...)
		cost += 4
		if len(other) > 0 && r.IntN(2) == 0 {
			b = append(b, other...)
			cost += 2 + len(other)
		}
	}
	return b, cost
}

// imagesOf returns images of n bytes with different structures.
func imagesOf(n int) map[string][]byte {
	return sample.Texts(rand.New(rand.NewPCG(7, 1)).IntN, n)
}
