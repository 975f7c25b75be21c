package merge_test

import (
	"slices"
	"testing"

	"inlay/api"
	"inlay/merge"
	"inlay/normal"
	"inlay/patch"
	"inlay/sample"
)

// What follows is written from the chapter alone, the plainest way, so that it is a second opinion.

// errorOf returns the error of patches that are not right, of different kinds, or not even and for inputs of one length.
func errorOf(l ...api.Patch) api.Errno {
	kinds, lengths := map[bool]bool{}, map[int]bool{}
	for _, p := range l {
		if _, e := patch.Check(p); e != api.OK {
			return api.ErrOp
		}
		kinds[p.Lifted] = true
		lengths[p.In], lengths[p.Out] = true, true
	}
	switch {
	case len(kinds) > 1:
		return api.ErrKind
	case len(lengths) > 1:
		return api.ErrLength
	}
	return api.OK
}

// applied returns what p makes of an input, also of a form.
func applied(old []byte, p api.Patch) []byte {
	p.Lifted = false
	return sample.Must(patch.Apply(old, p))
}

// An effect is what an even patch does: its symbols, and which places it touches and reads.
type effect struct {
	symbols        []api.Symbol
	touches, reads []bool
}

// effectOf returns the effect of p, told only by what p makes of four inputs.
func effectOf(p api.Patch) effect {
	l := sample.Told(p.In, func(old []byte) []byte { return applied(old, p) })
	x := effect{l, make([]bool, len(l)), make([]bool, len(l))}
	for i, s := range l {
		if s.Old && s.At == i && s.B == 0 {
			continue
		}
		x.touches[i] = true
		if s.Old {
			x.reads[s.At] = true
		}
	}
	return x
}

// clashes reports whether patches with these effects clash at the place i.
func (x effect) clashes(y effect, i int) bool {
	return x.touches[i] && y.touches[i] && x.symbols[i] != y.symbols[i]
}

// depends reports whether patches with these effects are not independent because of the place i.
func (x effect) depends(y effect, i int) bool {
	return x.touches[i] && (y.touches[i] || y.reads[i]) || y.touches[i] && (x.touches[i] || x.reads[i])
}

// placesOf returns the places from 0 up to n that are in a set.
func placesOf(n int, isIn func(i int) bool) []int {
	var l []int
	for i := range n {
		if isIn(i) {
			l = append(l, i)
		}
	}
	return l
}

// mergeOf returns what Merge has to return.
func mergeOf(p, q api.Patch) (api.Patch, api.Errno) {
	if e := errorOf(p, q); e != api.OK {
		return api.Patch{}, e
	}
	x, y := effectOf(p), effectOf(q)
	l := slices.Clone(y.symbols)
	for i := range l {
		if x.clashes(y, i) {
			return api.Patch{}, api.ErrClash
		}
		if x.touches[i] {
			l[i] = x.symbols[i]
		}
	}
	m, e := normal.Cheapest(l, p.In)
	if e == api.OK {
		m.Lifted = p.Lifted
	}
	return m, e
}

// commuteOf returns what Commute has to return.
func commuteOf(p, q api.Patch) (api.Patch, api.Patch, api.Errno) {
	if e := errorOf(p, q); e != api.OK {
		return api.Patch{}, api.Patch{}, e
	}
	x, y := effectOf(p), effectOf(q)
	for i := range p.In {
		if x.depends(y, i) {
			return api.Patch{}, api.Patch{}, api.ErrClash
		}
	}
	first, e := normal.Form(q)
	last, f := normal.Form(p)
	if e != api.OK || f != api.OK {
		return api.Patch{}, api.Patch{}, api.ErrBig
	}
	return first, last, api.OK
}

// checkRanges checks that ranges are in order, that each is as long as possible, and that they have exactly these places.
func checkRanges(t *testing.T, what string, l []api.Range, places []int) {
	t.Helper()
	var have []int
	last := -1
	for _, r := range l {
		if r.From <= last || r.From >= r.To {
			t.Fatalf("%s: the ranges are %v, and the places %v", what, l, places)
		}
		for i := r.From; i < r.To; i++ {
			have = append(have, i)
		}
		last = r.To
	}
	if !slices.Equal(have, places) {
		t.Fatalf("%s: the ranges are %v, and the places %v", what, l, places)
	}
}

// checkPlaces compares Touched and Read with the reference. It returns what they return.
func checkPlaces(t *testing.T, p api.Patch) (touched, read []api.Range) {
	t.Helper()
	touched, e := merge.Touched(p)
	read, f := merge.Read(p)
	want := errorOf(p)
	if e != want || f != want || want != api.OK && len(touched)+len(read) > 0 {
		t.Fatalf("%v: touched are %v, error %d, and read %v, error %d, want error %d", p, touched, e, read, f, want)
	}
	if want == api.OK {
		x := effectOf(p)
		checkRanges(t, "touched", touched, placesOf(p.In, func(i int) bool { return x.touches[i] }))
		checkRanges(t, "read", read, placesOf(p.In, func(i int) bool { return x.reads[i] }))
	}
	return touched, read
}

// checkClashes compares Clashes with the reference. It returns the ranges.
func checkClashes(t *testing.T, p, q api.Patch) []api.Range {
	t.Helper()
	l, e := merge.Clashes(p, q)
	want := errorOf(p, q)
	if e != want || want != api.OK && len(l) > 0 {
		t.Fatalf("Clashes of %v and %v: %v, error %d, want error %d", p, q, l, e, want)
	}
	if want == api.OK {
		x, y := effectOf(p), effectOf(q)
		checkRanges(t, "clashes", l, placesOf(p.In, func(i int) bool { return x.clashes(y, i) }))
	}
	return l
}

// checkMerge compares Merge with the reference. It returns what Merge returns.
func checkMerge(t *testing.T, p, q api.Patch) (api.Patch, api.Errno) {
	t.Helper()
	got, e := merge.Merge(p, q)
	if want, f := mergeOf(p, q); e != f || !sample.Same(got, want) {
		t.Fatalf("Merge of %v and %v: %v, error %d, want %v, error %d", p, q, got, e, want, f)
	}
	return got, e
}

// checkCommute compares Commute with the reference. It returns what Commute returns.
func checkCommute(t *testing.T, p, q api.Patch) (first, last api.Patch, e api.Errno) {
	t.Helper()
	first, last, e = merge.Commute(p, q)
	a, b, f := commuteOf(p, q)
	if e != f || !sample.Same(first, a) || !sample.Same(last, b) {
		t.Fatalf("Commute of %v and %v: %v and %v, error %d, want %v and %v, error %d", p, q, first, last, e, a, b, f)
	}
	return first, last, e
}

// checkPair compares the functions of two patches with the reference.
func checkPair(t *testing.T, p, q api.Patch) {
	t.Helper()
	checkClashes(t, p, q)
	checkMerge(t, p, q)
	checkCommute(t, p, q)
}
