package merge_test

import (
	"bytes"
	"math/rand/v2"
	"slices"
	"testing"

	"inlay/api"
	"inlay/compose"
	"inlay/label"
	"inlay/merge"
	"inlay/normal"
	"inlay/patch"
	"inlay/sample"
)

// stretches returns n numbers below k. Most of them are the same as the one before.
func stretches(r *rand.Rand, n, k int) []int {
	l := make([]int, n)
	change := 1 + r.IntN(8) // how rarely something changes
	for i := range l {
		l[i] = r.IntN(k)
		if i > 0 && r.IntN(change) > 0 {
			l[i] = l[i-1]
		}
	}
	return l
}

// without returns the symbols l at some places, and those of the input itself at the others.
func without(l []api.Symbol, isTouched func(i int) bool) []api.Symbol {
	some := slices.Clone(l)
	for i := range some {
		if !isTouched(i) {
			some[i] = api.Symbol{Old: true, At: i}
		}
	}
	return some
}

// anyPatch returns a patch with the symbols l, for inputs of as many bytes.
func anyPatch(r *rand.Rand, l []api.Symbol) api.Patch {
	return even(sample.AnyOps(r.IntN, l)...)
}

// eachTriple calls f with random patches of the same inputs. In most cases no two of them clash, as each one has at some
// places the symbols of one list, and changes nothing at the others.
func eachTriple(f func(r *rand.Rand, l [3]api.Patch)) {
	r := rand.New(rand.NewPCG(11, 2))
	for n := range 50 {
		for range 60 {
			symbols := sample.Symbols(r.IntN, n, n)
			isLifted := r.IntN(2) == 0
			var l [3]api.Patch
			for i := range l {
				touched := stretches(r, n, 2)
				some := without(symbols, func(i int) bool { return touched[i] == 1 })
				if n > 0 && r.IntN(4) == 0 {
					some[r.IntN(n)].B += byte(r.IntN(3))
				}
				l[i] = anyPatch(r, some)
				l[i].Lifted = isLifted
			}
			f(r, l)
		}
	}
}

// eachIndependent calls f with random patches that are independent: each place is one that both read, or that one of
// them touches and reads.
func eachIndependent(f func(r *rand.Rand, p, q api.Patch)) {
	r := rand.New(rand.NewPCG(11, 3))
	for n := range 50 {
		for range 60 {
			owner := stretches(r, n, 3)
			symbols := sample.Symbols(r.IntN, n, n)
			isLifted := r.IntN(2) == 0
			patchOf := func(one int) api.Patch {
				p := anyPatch(r, without(symbols, func(i int) bool {
					s := symbols[i]
					return owner[i] == one && (!s.Old || owner[s.At] == one || owner[s.At] == 0)
				}))
				p.Lifted = isLifted
				return p
			}
			f(r, patchOf(1), patchOf(2))
		}
	}
}

// isIn reports whether a place is in one of the ranges.
func isIn(l []api.Range, i int) bool {
	return slices.ContainsFunc(l, func(r api.Range) bool { return r.From <= i && i < r.To })
}

// anyInput returns an input for p.
func anyInput(r *rand.Rand, p api.Patch) []byte {
	return sample.Kinds(r.IntN, p.In, 256)
}

// P11.2: the output is the input at all places that p does not touch; at each of the others, one of some inputs shows
// that it is not.
func TestTouched(t *testing.T) {
	eachTriple(func(r *rand.Rand, l [3]api.Patch) {
		p := l[0]
		touched := sample.Must(merge.Touched(p))
		changes := make([]bool, p.In)
		for range 8 {
			old := anyInput(r, p)
			for i, b := range applied(old, p) {
				changes[i] = changes[i] || b != old[i]
			}
		}
		for i, isChanged := range changes {
			if isChanged != isIn(touched, i) {
				t.Fatalf("%v touches %v, which is wrong for the place %d", p, touched, i)
			}
		}
	})
}

// P11.3: what stands at the places that p touches changes when a byte is changed that p reads, and by no other byte.
func TestRead(t *testing.T) {
	eachTriple(func(r *rand.Rand, l [3]api.Patch) {
		p := l[0]
		touched, read := sample.Must(merge.Touched(p)), sample.Must(merge.Read(p))
		old := anyInput(r, p)
		made := applied(old, p)
		for k := range old {
			other := bytes.Clone(old)
			other[k] += byte(1 + r.IntN(255))
			isRead := false
			for i, b := range applied(other, p) {
				isRead = isRead || isIn(touched, i) && b != made[i]
			}
			if isRead != isIn(read, k) {
				t.Fatalf("%v reads %v, which is wrong for the place %d", p, read, k)
			}
		}
	})
}

// P11.4: what is at each place is what the patch makes that touches it, or the input.
func TestBoth(t *testing.T) {
	merged := 0
	eachTriple(func(r *rand.Rand, l [3]api.Patch) {
		p, q := l[0], l[1]
		m, e := merge.Merge(p, q)
		if e != api.OK {
			return
		}
		merged++
		old := anyInput(r, p)
		want := bytes.Clone(old)
		for _, one := range []api.Patch{p, q} {
			made := applied(old, one)
			for _, r := range sample.Must(merge.Touched(one)) {
				copy(want[r.From:r.To], made[r.From:r.To])
			}
		}
		if got := applied(old, m); !bytes.Equal(got, want) || m.Lifted != p.Lifted {
			t.Fatalf("%v and %v are merged to %v, which makes %x of %x, want %x", p, q, m, got, old, want)
		}
	})
	if merged < 1500 {
		t.Errorf("only %d pairs can be merged", merged)
	}
}

// P11.5: in either order, in either grouping, with itself, and with the patch that changes nothing.
func TestOrder(t *testing.T) {
	grouped := 0
	eachTriple(func(_ *rand.Rand, l [3]api.Patch) {
		a, e := merge.Merge(l[0], l[1])
		b, f := merge.Merge(l[1], l[0])
		if e != f || !sample.Same(a, b) {
			t.Fatalf("%v and %v: %v, error %d, and %v, error %d", l[0], l[1], a, e, b, f)
		}
		if checkGrouping(t, l) == api.OK {
			grouped++
		}
		checkNeutral(t, l[0])
	})
	if grouped < 1000 {
		t.Errorf("only %d triples can be merged", grouped)
	}
}

// checkGrouping checks that the patches of l are merged to the same one in either grouping, or clash in both. It
// returns the error.
func checkGrouping(t *testing.T, l [3]api.Patch) api.Errno {
	t.Helper()
	left, e := merge.Merge(l[0], l[1])
	if e == api.OK {
		left, e = merge.Merge(left, l[2])
	}
	right, f := merge.Merge(l[1], l[2])
	if f == api.OK {
		right, f = merge.Merge(l[0], right)
	}
	if e != f || !sample.Same(left, right) {
		t.Fatalf("%v: %v, error %d, and %v, error %d", l, left, e, right, f)
	}
	return e
}

// checkNeutral checks what p is merged to with itself, and with the patch that changes nothing.
func checkNeutral(t *testing.T, p api.Patch) {
	t.Helper()
	want, e := normal.Form(p)
	whole := patch.Whole(p.In)
	whole.Lifted = p.Lifted
	for _, two := range [][2]api.Patch{{p, p}, {p, whole}, {whole, p}} {
		if got, f := merge.Merge(two[0], two[1]); e != f || !sample.Same(got, want) {
			t.Fatalf("%v and %v: %v, error %d, want %v, error %d", two[0], two[1], got, f, want, e)
		}
	}
}

// P11.6: they can be merged exactly if there is no range; in the ranges both touch each place, and do not make the same
// of all inputs there, which they do at each other place that both touch.
func TestClashes(t *testing.T) {
	clashed := 0
	eachTriple(func(r *rand.Rand, l [3]api.Patch) {
		p, q := l[0], l[1]
		clashes := sample.Must(merge.Clashes(p, q))
		want := api.OK
		if len(clashes) > 0 {
			want = api.ErrClash
			clashed++
		}
		if m, e := merge.Merge(p, q); e != want || e != api.OK && !sample.Same(m, api.Patch{}) {
			t.Fatalf("%v and %v clash at %v, but are merged to %v, error %d", p, q, clashes, m, e)
		}
		differ := make([]bool, p.In)
		for range 8 {
			old := anyInput(r, p)
			a, b := applied(old, p), applied(old, q)
			for i := range differ {
				differ[i] = differ[i] || a[i] != b[i]
			}
		}
		byP, byQ := sample.Must(merge.Touched(p)), sample.Must(merge.Touched(q))
		for i, isOther := range differ {
			if isIn(clashes, i) != (isIn(byP, i) && isIn(byQ, i) && isOther) {
				t.Fatalf("%v and %v clash at %v, which is wrong for the place %d", p, q, clashes, i)
			}
		}
	})
	if clashed < 300 {
		t.Errorf("only %d pairs clash", clashed)
	}
}

// P11.7: in either order, and merged, they do the same. P11.1 (K4): what Commute returns does that in its order.
func TestExchange(t *testing.T) {
	touching := 0
	eachIndependent(func(r *rand.Rand, p, q api.Patch) {
		first, last, e := checkCommute(t, p, q)
		if e != api.OK || first.Lifted != p.Lifted || last.Lifted != p.Lifted {
			t.Fatalf("%v and %v: %v and %v, error %d", p, q, first, last, e)
		}
		m := sample.Must(merge.Merge(p, q))
		there, back := sample.Must(compose.Compose(p, q)), sample.Must(compose.Compose(first, last))
		if !sample.Same(there, m) || !sample.Same(back, m) {
			t.Fatalf("%v and %v: composed %v, exchanged %v, merged %v", p, q, there, back, m)
		}
		old := anyInput(r, p)
		want := applied(applied(old, p), q)
		if !bytes.Equal(applied(applied(old, first), last), want) || !bytes.Equal(applied(old, m), want) {
			t.Fatalf("%v and %v, exchanged %v and %v, or merged %v, do not make %x of %x", p, q, first, last, m, want, old)
		}
		if len(sample.Must(merge.Touched(p))) > 0 && len(sample.Must(merge.Touched(q))) > 0 {
			touching++
		}
	})
	if touching < 1500 {
		t.Errorf("only %d pairs change something", touching)
	}
}

// formOf returns the form of code.
func formOf(code []byte) []byte {
	return label.Form(sample.Must(label.Lift(code)))
}

// difference returns the patch of lifted code that puts the bytes of the form of new where those of old are others.
func difference(old, new []byte) api.Patch {
	a, b := formOf(old), formOf(new)
	l := make([]api.Symbol, len(b))
	for i := range l {
		l[i] = api.Symbol{Old: true, At: i}
		if a[i] != b[i] {
			l[i] = api.Symbol{B: b[i]}
		}
	}
	return lifted(sample.Must(patch.Of(l, len(a))))
}

// P11.4, P11.7: changes of other words of the same code, of which none is linked, are merged, and made in either order.
func TestCode(t *testing.T) {
	r := rand.New(rand.NewPCG(11, 4))
	changed := 0
	for range 500 {
		n := r.IntN(40)
		old := sample.Code(r.IntN, n)
		a, b, both := bytes.Clone(old), bytes.Clone(old), bytes.Clone(old)
		for i := range n {
			if old[4*i] > 4 || r.IntN(3) > 0 {
				continue
			}
			one := [][]byte{a, b}[r.IntN(2)]
			one[4*i+2] = byte(r.IntN(16))
			both[4*i+2] = one[4*i+2]
			changed++
		}
		p, q := difference(old, a), difference(old, b)
		first, last, e := checkCommute(t, p, q)
		if e != api.OK {
			t.Fatalf("%v and %v: error %d", p, q, e)
		}
		m, _ := checkMerge(t, p, q)
		merged := sample.Must(patch.Apply(old, m))
		there := sample.Must(patch.Apply(sample.Must(patch.Apply(old, p)), q))
		back := sample.Must(patch.Apply(sample.Must(patch.Apply(old, first)), last))
		if !bytes.Equal(merged, both) || !bytes.Equal(there, both) || !bytes.Equal(back, both) {
			t.Fatalf("%v and %v make %x, %x and %x of %x, want %x", p, q, merged, there, back, old, both)
		}
	}
	if changed < 1000 {
		t.Errorf("only %d words change", changed)
	}
}

// P11.7: what is in between is no form of code. One patch moves the mark of a word, the other one exchanges the words.
func TestNoCodeBetween(t *testing.T) {
	old, want := []byte{5, 0, 0, 1, 1, 2, 3, 4}, []byte{1, 2, 3, 4, 5, 0, 0, 0}
	if form := string(formOf(old)); form != "\x00\x02\x00\x01\x00\x01\x01\x05\x00\x00\x00\x01\x02\x03\x04" {
		t.Fatalf("the form of the code is %x", form)
	}
	p, q := lifted(even(copyOf(0, 6), lit(2), copyOf(7, 8))), lifted(even(copyOf(0, 7), copyOf(11, 4), copyOf(7, 4)))
	for _, two := range [][2]api.Patch{{p, q}, {q, p}} {
		if got, e := patch.Apply(old, two[0]); e != api.ErrLabel {
			t.Errorf("%v makes %x, error %d, want ErrLabel", two[0], got, e)
		}
		first, last, e := checkCommute(t, two[0], two[1])
		if got := applied(applied(formOf(old), first), last); e != api.OK || !bytes.Equal(got, formOf(want)) {
			t.Errorf("%v and %v make %x of the form, error %d, want %x", first, last, got, e, formOf(want))
		}
		m, _ := checkMerge(t, two[0], two[1])
		if got, e := patch.Apply(old, m); e != api.OK || !bytes.Equal(got, want) {
			t.Errorf("%v makes %x of the code, error %d, want %x", m, got, e, want)
		}
	}
}
