package split_test

import (
	"slices"
	"testing"

	"inlay/api"
	"inlay/image"
	"inlay/normal"
	"inlay/patch"
	"inlay/sample"
	"inlay/split"
)

// What follows is written from the chapter alone, the plainest way, so that it is a second opinion.

// applied returns what p makes of an input, also of a form.
func applied(old []byte, p api.Patch) []byte {
	p.Lifted = false
	return sample.Must(patch.Apply(old, p))
}

// told returns the symbols of p, told only by what p makes of four inputs.
func told(p api.Patch) []api.Symbol {
	return sample.Told(p.In, func(old []byte) []byte { return applied(old, p) })
}

// isWrong reports whether p is not right.
func isWrong(p api.Patch) bool {
	_, e := patch.Check(p)
	return e != api.OK
}

// partsOf returns the parts of p for the ranges of l.
func partsOf(p api.Patch, l []api.Range) ([]api.Patch, api.Errno) {
	symbols := told(p)
	var parts []api.Patch
	for _, r := range l {
		part, e := normal.Cheapest(symbols[r.From:r.To], p.In)
		if e != api.OK {
			return nil, e
		}
		parts = append(parts, part)
	}
	return parts, api.OK
}

// splitOf returns what Split has to return.
func splitOf(p api.Patch, l []api.Section) ([]api.Patch, api.Errno) {
	switch {
	case isWrong(p):
		return nil, api.ErrOp
	case p.Lifted:
		return nil, api.ErrKind
	case !image.Valid(l, p.Out):
		return nil, api.ErrSection
	}
	var ranges []api.Range
	for _, s := range l {
		ranges = append(ranges, api.Range{From: s.From, To: s.To})
	}
	return partsOf(p, ranges)
}

// sectorsOf returns what Sectors has to return.
func sectorsOf(p api.Patch, size int) ([]api.Patch, api.Errno) {
	switch {
	case isWrong(p):
		return nil, api.ErrOp
	case p.Lifted:
		return nil, api.ErrKind
	case size < 1 || size > 4096:
		return nil, api.ErrArg
	}
	var ranges []api.Range
	for i := range p.Out {
		if i%size == 0 {
			ranges = append(ranges, api.Range{From: i})
		}
		ranges[i/size].To = i + 1
	}
	return partsOf(p, ranges)
}

// joinOf returns what Join has to return.
func joinOf(l []api.Patch) (api.Patch, api.Errno) {
	if len(l) == 0 {
		return api.Patch{}, api.ErrArg
	}
	if slices.ContainsFunc(l, isWrong) {
		return api.Patch{}, api.ErrOp
	}
	kinds, inputs, out := map[bool]bool{}, map[int]bool{}, 0
	for _, p := range l {
		kinds[p.Lifted], inputs[p.In] = true, true
		out += p.Out
	}
	switch {
	case len(kinds) > 1:
		return api.Patch{}, api.ErrKind
	case len(inputs) > 1 || out > 65536:
		return api.Patch{}, api.ErrLength
	}
	var symbols []api.Symbol
	for _, p := range l {
		symbols = append(symbols, told(p)...)
	}
	joined, e := normal.Cheapest(symbols, l[0].In)
	if e == api.OK {
		joined.Lifted = l[0].Lifted
	}
	return joined, e
}

// sameAll compares lists of patches.
func sameAll(a, b []api.Patch) bool { return slices.EqualFunc(a, b, sample.Same) }

// checkSplit compares Split with the reference. It returns what Split returns.
func checkSplit(t *testing.T, p api.Patch, l []api.Section) ([]api.Patch, api.Errno) {
	t.Helper()
	got, e := split.Split(p, l)
	if want, f := splitOf(p, l); e != f || !sameAll(got, want) {
		t.Fatalf("Split of %v, %v: %v, error %d, want %v, error %d", p, l, got, e, want, f)
	}
	return got, e
}

// checkSectors compares Sectors with the reference. It returns what Sectors returns.
func checkSectors(t *testing.T, p api.Patch, size int) ([]api.Patch, api.Errno) {
	t.Helper()
	got, e := split.Sectors(p, size)
	if want, f := sectorsOf(p, size); e != f || !sameAll(got, want) {
		t.Fatalf("Sectors of %v, %d: %v, error %d, want %v, error %d", p, size, got, e, want, f)
	}
	return got, e
}

// checkJoin compares Join with the reference. It returns what Join returns.
func checkJoin(t *testing.T, l []api.Patch) (api.Patch, api.Errno) {
	t.Helper()
	got, e := split.Join(l)
	if want, f := joinOf(l); e != f || !sample.Same(got, want) {
		t.Fatalf("Join of %v: %v, error %d, want %v, error %d", l, got, e, want, f)
	}
	return got, e
}
