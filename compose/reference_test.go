package compose_test

import (
	"slices"
	"testing"

	"inlay/api"
	"inlay/compose"
	"inlay/normal"
	"inlay/patch"
	"inlay/sample"
)

// What follows is written from the chapter alone, the plainest way, so that it is a second opinion.

// inTurn returns what q makes of what p makes of the input, as if Lifted were false.
func inTurn(old []byte, p, q api.Patch) []byte {
	p.Lifted, q.Lifted = false, false
	return sample.Must(patch.Apply(sample.Must(patch.Apply(old, p)), q))
}

// symbolsOf returns the symbols of p and q in turn, told only by what they make of four inputs.
func symbolsOf(p, q api.Patch) []api.Symbol {
	return sample.Told(p.In, func(old []byte) []byte { return inTurn(old, p, q) })
}

// composeOf returns what Compose has to return.
func composeOf(p, q api.Patch) (api.Patch, api.Errno) {
	_, e := patch.Check(p)
	_, f := patch.Check(q)
	switch {
	case e != api.OK || f != api.OK:
		return api.Patch{}, api.ErrOp
	case p.Lifted != q.Lifted:
		return api.Patch{}, api.ErrKind
	case p.Out != q.In:
		return api.Patch{}, api.ErrLength
	}
	r, e := normal.Cheapest(symbolsOf(p, q), p.In)
	if e == api.OK {
		r.Lifted = p.Lifted
	}
	return r, e
}

// allOf returns what All has to return.
func allOf(l []api.Patch) (api.Patch, api.Errno) {
	n := len(l)
	switch n {
	case 0:
		return api.Patch{}, api.ErrArg
	case 1:
		return normal.Form(l[0])
	}
	p, e := allOf(l[:n-1])
	if e != api.OK {
		return api.Patch{}, e
	}
	return composeOf(p, l[n-1])
}

// leastCost returns the least cost of operations that have the symbols l.
func leastCost(l []api.Symbol) int {
	least := make([]int, len(l)+1)
	for to := 1; to <= len(l); to++ {
		least[to] = 1 << 30
		for from := range to {
			for _, o := range sample.Operations(l[from:to]) {
				cost := []int{0, 4, 4 + o.Len, 4, 2 + o.Len}[o.Kind]
				least[to] = min(least[to], least[from]+cost)
			}
		}
	}
	return least[len(l)]
}

// check compares Compose with the reference. It returns what Compose returns.
func check(t *testing.T, p, q api.Patch) (api.Patch, api.Errno) {
	t.Helper()
	got, e := compose.Compose(p, q)
	if want, f := composeOf(p, q); e != f || !sample.Same(got, want) {
		t.Fatalf("Compose of %v and %v: %v, error %d, want %v, error %d", p, q, got, e, want, f)
	}
	return got, e
}

// mustCompose returns the composed patch of two that fit.
func mustCompose(t *testing.T, p, q api.Patch) api.Patch {
	t.Helper()
	got, e := compose.Compose(p, q)
	if e != api.OK {
		t.Fatalf("Compose of %v and %v: error %d", p, q, e)
	}
	return got
}

// checkAll compares All with the reference. It returns what All returns.
func checkAll(t *testing.T, l []api.Patch) (api.Patch, api.Errno) {
	t.Helper()
	got, e := compose.All(l)
	if want, f := allOf(l); e != f || !sample.Same(got, want) {
		t.Fatalf("All of %v: %v, error %d, want %v, error %d", l, got, e, want, f)
	}
	return got, e
}

// mustAll returns the composed patch of those that fit.
func mustAll(t *testing.T, l ...api.Patch) api.Patch {
	t.Helper()
	got, e := compose.All(l)
	if e != api.OK {
		t.Fatalf("All of %v: error %d", l, e)
	}
	return got
}

// goesThrough reports whether each place of b is one of an element of a.
func goesThrough(a, b []api.Symbol) bool {
	return !slices.ContainsFunc(b, func(s api.Symbol) bool { return s.Old && (s.At < 0 || s.At > len(a)-1) })
}
