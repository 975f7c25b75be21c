package normal_test

import (
	"bytes"
	"slices"
	"testing"

	"inlay/api"
	"inlay/normal"
	"inlay/patch"
	"inlay/sample"
)

// What follows is written from the chapter alone, the plainest way, so that it is a second opinion.

// costOf returns the cost of operations.
func costOf(ops []api.Op) int {
	cost := 0
	for _, o := range ops {
		cost += []int{0, 4, 4 + o.Len, 4, 2 + o.Len}[o.Kind]
	}
	return cost
}

// isBetter compares two lists of operations with the same symbols.
func isBetter(a, b []api.Op) bool {
	if costOf(a) != costOf(b) {
		return costOf(a) < costOf(b)
	}
	if len(a) != len(b) {
		return len(a) < len(b)
	}
	for i := range a {
		if a[i].Kind != b[i].Kind {
			return a[i].Kind < b[i].Kind
		}
		if a[i].Len != b[i].Len {
			return a[i].Len > b[i].Len
		}
	}
	return false
}

// eachList calls f with all lists of operations that have the symbols l, each after the ones before.
func eachList(before []api.Op, l []api.Symbol, f func(ops []api.Op)) {
	if len(l) == 0 {
		f(before)
		return
	}
	for n := 1; n <= len(l); n++ {
		for _, o := range sample.Operations(l[:n]) {
			eachList(append(slices.Clip(before), o), l[n:], f)
		}
	}
}

// bestOfAll returns the list that is better than all others, of few symbols.
func bestOfAll(l []api.Symbol) []api.Op {
	var best []api.Op
	eachList(nil, l, func(ops []api.Op) {
		if best == nil || isBetter(ops, best) {
			best = ops
		}
	})
	return best
}

// bestOf returns it for more symbols, from the best ones for the first symbols.
func bestOf(l []api.Symbol) []api.Op {
	best := make([][]api.Op, len(l)+1)
	for to := 1; to <= len(l); to++ {
		for from := range to {
			for _, o := range sample.Operations(l[from:to]) {
				ops := append(slices.Clip(best[from]), o)
				if best[to] == nil || isBetter(ops, best[to]) {
					best[to] = ops
				}
			}
		}
	}
	return best[len(l)]
}

// areRight reports whether the symbols, and their number, are right for inputs of in bytes.
func areRight(l []api.Symbol, in int) bool {
	if in < 0 || in > 65536 || len(l) > 65536 {
		return false
	}
	for _, s := range l {
		if s.Old && (s.At < 0 || s.At >= in) || !s.Old && s.At != 0 {
			return false
		}
	}
	return true
}

// applied returns what p makes of some bytes, as if Lifted were false.
func applied(p api.Patch) []byte {
	old := make([]byte, p.In)
	for i := range old {
		old[i] = byte(19*i + i/256 + 5)
	}
	p.Lifted = false
	return sample.Must(patch.Apply(old, p))
}

// symbolsOf returns the symbols of p, which must be right.
func symbolsOf(p api.Patch) []api.Symbol {
	return sample.Must(patch.Symbols(p))
}

// mustForm returns the form of p, which must be right, have its numbers and symbols, and cost at most as much.
func mustForm(t *testing.T, p api.Patch) api.Patch {
	t.Helper()
	q, e := normal.Form(p)
	if e != api.OK {
		t.Fatalf("Form of %v: error %d", p, e)
	}
	if n, e := patch.Check(q); e != api.OK || q.Lifted != p.Lifted || q.In != p.In || q.Out != p.Out {
		t.Fatalf("Form of %v: %v, which is not right at %d, or has other numbers", p, q, n)
	}
	if !slices.Equal(symbolsOf(q), symbolsOf(p)) || !bytes.Equal(applied(q), applied(p)) {
		t.Fatalf("Form of %v: %v, which has other symbols", p, q)
	}
	if patch.Cost(q) > patch.Cost(p) {
		t.Fatalf("Form of %v: %v, which costs more", p, q)
	}
	return q
}

// mustCheapest returns the cheapest patch for symbols, which must be right.
func mustCheapest(t *testing.T, l []api.Symbol, in int) api.Patch {
	t.Helper()
	p, e := normal.Cheapest(l, in)
	if e != api.OK || p.Lifted || p.In != in || p.Out != len(l) {
		t.Fatalf("Cheapest of %v, %d: %v, error %d", l, in, p, e)
	}
	if !slices.Equal(symbolsOf(p), l) {
		t.Fatalf("Cheapest of %v, %d: %v, which has other symbols", l, in, p)
	}
	return p
}

// check checks what Cheapest returns for symbols against the best list.
func check(t *testing.T, l []api.Symbol, in int, best []api.Op) {
	t.Helper()
	p, e := normal.Cheapest(l, in)
	if !areRight(l, in) {
		if e != api.ErrOp || !sample.Same(p, api.Patch{}) {
			t.Fatalf("Cheapest of %v, %d: %v, error %d, want ErrOp", l, in, p, e)
		}
		return
	}
	if want := (api.Patch{In: in, Out: len(l), Ops: best}); e != api.OK || !sample.Same(p, want) {
		t.Fatalf("Cheapest of %v, %d: %v, error %d, want %v", l, in, p, e, want)
	}
}
