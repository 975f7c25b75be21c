package patch_test

import (
	"math/rand/v2"
	"slices"
	"testing"

	"inlay/api"
	"inlay/patch"
	"inlay/sample"
)

// compareOf compares Of with the reference, and looks at what it makes.
func compareOf(t *testing.T, l []api.Symbol, in int) {
	t.Helper()
	p, e := patch.Of(l, in)
	if in < 0 || in > 65536 || slices.ContainsFunc(l, func(s api.Symbol) bool { return !isRightSymbol(s, in) }) {
		if e != api.ErrOp || !sample.Same(p, api.Patch{}) {
			t.Fatalf("Of(%v, %d): %v, error %d, want ErrOp", l, in, p, e)
		}
		return
	}
	if want := piecesOf(l); e != api.OK || p.Lifted || p.In != in || p.Out != len(l) || !sample.SameOps(p.Ops, want) {
		t.Fatalf("Of(%v, %d): %v, error %d, want %v", l, in, p, e, want)
	}
	if _, e := patch.Check(p); e != api.OK {
		t.Fatalf("Of(%v, %d): %v is not right", l, in, p)
	}
	if again := mustSymbols(t, p); !slices.Equal(again, l) {
		t.Fatalf("Of(%v, %d): %v has the symbols %v", l, in, p, again)
	}
}

// P6.1 (F5), P6.3: all lists of few symbols, right ones and others.
func TestOfShortLists(t *testing.T) {
	symbols := []api.Symbol{
		{B: 0}, {B: 7}, {Old: true, At: 0}, {Old: true, At: 1}, {Old: true, At: 2}, {Old: true, At: 0, B: 1}, {Old: true, At: 1, B: 1}, {Old: true, At: 2, B: 255},
	}
	wrong := []api.Symbol{{At: 1}, {At: -1, B: 7}, {Old: true, At: 3}, {Old: true, At: -1}, {Old: true, At: -1, B: 1}}
	var extend func(l []api.Symbol, of []api.Symbol, n int)
	extend = func(l, of []api.Symbol, n int) {
		for in := range 5 {
			compareOf(t, l, in)
		}
		if len(l) == n {
			return
		}
		for _, s := range of {
			extend(append(slices.Clone(l), s), of, n)
		}
	}
	extend(nil, symbols, 5)
	extend(nil, append(wrong, symbols...), 3)
}

// P6.1 (F5), P6.3: the symbols of patches, which may have operations that Of does not make.
func TestOfTheSymbolsOfPatches(t *testing.T) {
	eachRightPatch(func(p api.Patch) {
		l := mustSymbols(t, p)
		if len(l) < 1000 {
			compareOf(t, l, p.In)
			return
		}
		q, e := patch.Of(l, p.In)
		if e == api.ErrBig { // such as of a Diff with many bytes 0
			return
		}
		if e != api.OK || !slices.Equal(mustSymbols(t, q), l) {
			t.Fatalf("%d symbols: error %d, or others", len(l), e)
		}
	})
}

// P6.1 (F5), P6.3: pieces that begin and end in all ways.
func TestOfLists(t *testing.T) {
	r := rand.New(rand.NewPCG(6, 6))
	for n := range 60 {
		for range 20 {
			l := sample.Symbols(r.IntN, n, 40)
			compareOf(t, l, 40)
			compareOf(t, l, 39)
		}
	}
}

// manyPieces returns symbols of n pieces.
func manyPieces(n int) []api.Symbol {
	l := make([]api.Symbol, n)
	for i := range l {
		l[i].Old = i%2 == 0
	}
	return l
}

// P6.1 (F5), P6.8, P1
func TestLimitsOfOf(t *testing.T) {
	longest := make([]api.Symbol, 65537)
	places := make([]api.Symbol, 65537)
	for i := range places {
		places[i] = api.Symbol{Old: true, At: i}
	}
	for what, c := range map[string]struct {
		l    []api.Symbol
		in   int
		want api.Errno
		ops  int
	}{
		"the most symbols":                           {longest[:65536], 0, api.OK, 1},
		"one more":                                   {longest, 0, api.ErrOp, 0},
		"the greatest input":                         {places[:65536], 65536, api.OK, 1},
		"the same for a smaller one":                 {places[:65536], 65535, api.ErrOp, 0},
		"a greater one":                              {nil, 65537, api.ErrOp, 0},
		"a greater one, of whose places all are":     {places, 65537, api.ErrOp, 0},
		"a negative one":                             {nil, -1, api.ErrOp, 0},
		"an input far beyond the limits":             {places[:1], 1 << 62, api.ErrOp, 0},
		"no symbols":                                 {nil, 0, api.OK, 0},
		"the most operations":                        {manyPieces(4096), 1, api.OK, 4096},
		"one operation more":                         {manyPieces(4097), 1, api.ErrBig, 0},
		"as many operations as there may be symbols": {manyPieces(65536), 1, api.ErrBig, 0},
		"one more than that":                         {manyPieces(65537), 1, api.ErrOp, 0},
		"too many operations, and a wrong symbol":    {append(manyPieces(5000), places[1]), 1, api.ErrOp, 0},
		"the same, for no input":                     {manyPieces(4097), 0, api.ErrOp, 0},
		"a place far beyond the limits":              {[]api.Symbol{{Old: true, At: 1<<63 - 1}, {Old: true, At: -1 << 63}}, 3, api.ErrOp, 0},
		"a byte with such a place":                   {[]api.Symbol{{At: 1<<63 - 1}}, 65536, api.ErrOp, 0},
	} {
		p, e := patch.Of(c.l, c.in)
		if e != c.want || len(p.Ops) != c.ops || e != api.OK && !sample.Same(p, api.Patch{}) {
			t.Errorf("%s: %d operations, error %d, want %d, error %d", what, len(p.Ops), e, c.ops, c.want)
		}
		if e == api.OK && (p.In != c.in || p.Out != len(c.l) || !slices.Equal(mustSymbols(t, p), c.l)) {
			t.Errorf("%s: other symbols, or numbers of bytes", what)
		}
	}
}

// F7, P2: the symbols stay, and the data of each operation are memory of their own.
func TestOfModifiesNothing(t *testing.T) {
	l := []api.Symbol{{B: 1}, {B: 2}, {Old: true}, {Old: true, B: 3}, {Old: true, At: 1, B: 4}, {B: 5}}
	before := slices.Clone(l)
	want := piecesOf(l)
	for i := range want {
		p, _ := patch.Of(l, 2)
		data := p.Ops[i].Data
		clear(data[:cap(data)])
		p.Ops[i] = want[i]
		if !slices.Equal(l, before) || !sample.SameOps(p.Ops, want) {
			t.Errorf("with the data of the operation %d changed: %v of %v, want %v", i, p.Ops, l, want)
		}
	}
}
