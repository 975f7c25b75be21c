package inverse_test

import (
	"bytes"
	"math/rand/v2"
	"slices"
	"testing"

	"inlay/api"
	"inlay/compose"
	"inlay/inverse"
	"inlay/patch"
	"inlay/sample"
)

// eachInverse calls f with random patches, lifted ones and others, that have an inverse.
func eachInverse(t *testing.T, f func(old []byte, p, q api.Patch)) {
	n := 0
	invert := func(old []byte, p api.Patch) {
		q, e := inverse.Invert(old, p)
		if e == api.ErrBig {
			return
		}
		if e != api.OK {
			t.Fatalf("Invert of %x, %v: error %d", old, p, e)
		}
		n++
		f(old, p, q)
	}
	eachPatch(invert)
	eachLifted(invert)
	if n < 3600 {
		t.Errorf("only %d patches have an inverse", n)
	}
}

// makes checks that p makes an image of another one.
func makes(t *testing.T, what string, p api.Patch, old, want []byte) {
	t.Helper()
	if got, e := patch.Apply(old, p); e != api.OK || !bytes.Equal(got, want) {
		t.Fatalf("%s: %v makes %x of %x, error %d, want %x", what, p, got, old, e, want)
	}
}

// P10.2
func TestBack(t *testing.T) {
	eachInverse(t, func(old []byte, p, q api.Patch) {
		if q.In != p.Out || q.Out != p.In || q.Lifted != p.Lifted {
			t.Fatalf("the inverse of %v is %v, whose numbers are wrong", p, q)
		}
		makes(t, "the inverse", q, sample.Must(patch.Apply(old, p)), old)
	})
}

// P10.3: a byte of the old image is a literal of the inverse if it is lost, and only then. P10.7: there are none if
// nothing is lost.
func TestLiterals(t *testing.T) {
	without := 0
	eachInverse(t, func(old []byte, p, q api.Patch) {
		lost := checkLost(t, p)
		for i, s := range sample.Must(patch.Symbols(q)) {
			isIn := slices.ContainsFunc(lost, func(r api.Range) bool { return r.From <= i && i < r.To })
			if s.Old == isIn {
				t.Fatalf("the inverse of %v is %v, which is wrong for the byte %d; lost are %v", p, q, i, lost)
			}
		}
		isLiteral := func(o api.Op) bool { return o.Kind == api.Lit || o.Kind == api.Run }
		if slices.ContainsFunc(q.Ops, isLiteral) != (len(lost) > 0) {
			t.Fatalf("the inverse of %v is %v; lost are %v", p, q, lost)
		}
		if len(lost) == 0 && p.In > 0 {
			without++
		}
	})
	if without < 100 {
		t.Errorf("only %d patches lose nothing", without)
	}
}

// P10.4
func TestTwice(t *testing.T) {
	eachInverse(t, func(old []byte, p, q api.Patch) {
		made := sample.Must(patch.Apply(old, p))
		again, e := check(t, made, q)
		if e == api.ErrBig {
			return
		}
		makes(t, "the inverse of the inverse", again, old, made)
	})
}

// overlapping returns a patch of 4096 pieces of 16 bytes, of which each begins with the last byte of the one before.
func overlapping() api.Patch {
	p := of(15*4096+1, 65536)
	for i := range 4096 {
		p.Ops = append(p.Ops, copyOf(15*i, 16))
	}
	return p
}

// P10.4, with J1: an inverse with as many operations as there may be, whose own one would have more.
func TestTooManyTwice(t *testing.T) {
	p := overlapping()
	old := make([]byte, p.In)
	for i := range old {
		old[i] = byte(i % 251)
	}
	q, e := check(t, old, p)
	if e != api.OK || len(q.Ops) != 4096 {
		t.Fatalf("the inverse has %d operations, error %d", len(q.Ops), e)
	}
	made := sample.Must(patch.Apply(old, p))
	makes(t, "the inverse", q, made, old)
	if again, e := check(t, made, q); e != api.ErrBig || !sample.Same(again, api.Patch{}) {
		t.Errorf("the inverse of the inverse has %d operations, error %d, want ErrBig", len(again.Ops), e)
	}
}

// P10.5: the whole patch, cut anywhere, with Diffs that add nothing.
func TestIdentity(t *testing.T) {
	r := rand.New(rand.NewPCG(10, 3))
	compare := func(old []byte, isLifted bool) {
		want := patch.Whole(len(inputFor(old, isLifted)))
		want.Lifted = isLifted
		p := want
		for range 10 {
			if got, e := check(t, old, p); e != api.OK || !sample.Same(got, want) {
				t.Fatalf("the inverse of %v is %v, error %d, want %v", p, got, e, want)
			}
			if p.In < 1000 {
				p.Ops = sample.AnyOps(r.IntN, sample.Must(patch.Symbols(want)))
			}
		}
	}
	for _, n := range []int{0, 1, 2, 3, 10, 100, 999, 65535, 65536} {
		compare(sample.Kinds(r.IntN, n, 256), false)
	}
	for n := range 40 {
		compare(sample.Code(r.IntN, n), true)
	}
	zeros := of(65536, 65536, diff(0, make([]byte, 65536)...))
	if got := mustInvert(t, make([]byte, 65536), zeros); !sample.Same(got, patch.Whole(65536)) {
		t.Errorf("the inverse of 65536 bytes to which 0 is added is %v", got)
	}
}

// P10.6: if the composed patches do not have too many operations.
func TestComposition(t *testing.T) {
	n := 0
	eachInverse(t, func(old []byte, p, q api.Patch) {
		made := sample.Must(patch.Apply(old, p))
		there, e := compose.Compose(p, q)
		if e != api.OK {
			t.Fatalf("%v and its inverse %v: error %d", p, q, e)
		}
		makes(t, "a patch and its inverse", there, old, old)
		back, e := compose.Compose(q, p)
		if e == api.ErrBig {
			return
		}
		if e != api.OK {
			t.Fatalf("the inverse %v and %v: error %d", q, p, e)
		}
		makes(t, "the inverse and the patch", back, made, made)
		n++
	})
	if n < 3600 {
		t.Errorf("only %d patches were composed with their inverse", n)
	}
}

// P10.6, with I2: nothing is lost by this patch, but the inverse and the patch have too many operations together, as the
// bytes that are copied in order come first in the other order.
func TestTooManyComposed(t *testing.T) {
	n := 1500
	p := of(n, 4*n)
	for i := range n {
		p.Ops = append(p.Ops, copyOf(n-1-i, 1))
	}
	p.Ops = append(p.Ops, copyOf(0, n), copyOf(0, n), copyOf(0, n))
	old := make([]byte, n)
	q := mustInvert(t, old, p)
	if both, e := compose.Compose(p, q); e != api.OK || !sample.Same(both, patch.Whole(n)) {
		t.Errorf("the patch and its inverse: %v, error %d", both, e)
	}
	if both, e := compose.Compose(q, p); e != api.ErrBig {
		t.Errorf("the inverse and the patch: %d operations, error %d, want ErrBig", len(both.Ops), e)
	}
}

// P10.7: lost bytes are those that no symbol has.
func TestLost(t *testing.T) {
	compare := func(_ []byte, p api.Patch) {
		places := map[int]bool{}
		for _, s := range sample.Must(patch.Symbols(p)) {
			if s.Old {
				places[s.At] = true
			}
		}
		lost := 0
		for _, r := range checkLost(t, p) {
			lost += r.To - r.From
			for i := r.From; i < r.To; i++ {
				if places[i] {
					t.Fatalf("%v: the byte %d is lost, but there is a symbol that has it", p, i)
				}
			}
		}
		if lost+len(places) != p.In {
			t.Fatalf("%v: %d bytes are lost, and symbols have %d", p, lost, len(places))
		}
	}
	eachPatch(compare)
	eachLifted(compare)
	compare(nil, overlapping())
	compare(nil, spaced(8192, 4096))
	compare(nil, of(65536, 0))
	compare(nil, patch.Whole(65536))
}
