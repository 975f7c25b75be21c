package inverse_test

import (
	"testing"

	"inlay/api"
	"inlay/inverse"
	"inlay/label"
	"inlay/normal"
	"inlay/patch"
	"inlay/sample"
)

// What follows is written from the chapter alone, the plainest way, so that it is a second opinion.

// inverseSymbolOf returns the inverse symbol of the byte i of the input, which is b, by the first one of the operations
// that has this byte.
func inverseSymbolOf(ops []api.Op, i int, b byte) api.Symbol {
	at := 0
	for _, o := range ops {
		if (o.Kind == api.Copy || o.Kind == api.Diff) && o.From <= i && i <= o.From+o.Len-1 {
			s := api.Symbol{Old: true, At: at + i - o.From}
			if o.Kind == api.Diff {
				s.B = byte(256 - int(o.Data[i-o.From]))
			}
			return s
		}
		at += o.Len
	}
	return api.Symbol{B: b}
}

// inputFor returns the input of patches for old, which must be code if they are lifted ones.
func inputFor(old []byte, lifted bool) []byte {
	if lifted {
		return label.Form(sample.Must(label.Lift(old)))
	}
	return old
}

// invertOf returns what Invert has to return.
func invertOf(old []byte, p api.Patch) (api.Patch, api.Errno) {
	if _, e := patch.Check(p); e != api.OK {
		return api.Patch{}, api.ErrOp
	}
	if _, e := patch.Apply(old, p); e != api.OK {
		return api.Patch{}, e
	}
	var l []api.Symbol
	for i, b := range inputFor(old, p.Lifted) {
		l = append(l, inverseSymbolOf(p.Ops, i, b))
	}
	q, e := normal.Cheapest(l, p.Out)
	if e == api.OK {
		q.Lifted = p.Lifted
	}
	return q, e
}

// isLost reports whether no operation of p has the byte i of the input.
func isLost(p api.Patch, i int) bool {
	return !inverseSymbolOf(p.Ops, i, 0).Old
}

// check compares Invert with the reference. It returns what Invert returns.
func check(t *testing.T, old []byte, p api.Patch) (api.Patch, api.Errno) {
	t.Helper()
	got, e := inverse.Invert(old, p)
	if want, f := invertOf(old, p); e != f || !sample.Same(got, want) {
		t.Fatalf("Invert of %x, %v: %v, error %d, want %v, error %d", old, p, got, e, want, f)
	}
	return got, e
}

// checkLost checks that the ranges that Lost returns are in order, with a kept byte between them, and that they have
// exactly the lost bytes of p. It returns them.
func checkLost(t *testing.T, p api.Patch) []api.Range {
	t.Helper()
	l, e := inverse.Lost(p)
	if _, f := patch.Check(p); e != f || e != api.OK && len(l) > 0 {
		t.Fatalf("Lost of %v: %v, error %d, want error %d", p, l, e, f)
	}
	last := -1
	lost := map[int]bool{}
	for _, r := range l {
		if r.From <= last || r.From >= r.To || r.To > p.In {
			t.Fatalf("Lost of %v: %v", p, l)
		}
		for i := r.From; i < r.To; i++ {
			lost[i] = true
		}
		last = r.To
	}
	if e != api.OK {
		return nil
	}
	for i := range p.In {
		if lost[i] != isLost(p, i) {
			t.Fatalf("Lost of %v: %v, which is wrong for the byte %d", p, l, i)
		}
	}
	return l
}

// mustInvert returns the inverse of a patch that has one.
func mustInvert(t *testing.T, old []byte, p api.Patch) api.Patch {
	t.Helper()
	q, e := inverse.Invert(old, p)
	if e != api.OK {
		t.Fatalf("Invert of %x, %v: error %d", old, p, e)
	}
	return q
}
