package patch_test

import (
	"bytes"
	"math"
	"slices"
	"testing"

	"inlay/api"
	"inlay/patch"
	"inlay/sample"
)

// P6.1 (F1, F2), P6.2: the examples of the chapter.
func TestExamples(t *testing.T) {
	old := func(at int, b byte) api.Symbol { return api.Symbol{Old: true, At: at, B: b} }
	for _, c := range []struct {
		p    api.Patch
		want []api.Symbol
	}{
		{api.Patch{In: 3, Out: 4, Ops: []api.Op{{Kind: api.Copy, From: 1, Len: 2}, {Kind: api.Run, Len: 2, B: 9}}}, []api.Symbol{old(1, 0), old(2, 0), {B: 9}, {B: 9}}},
		{api.Patch{In: 3, Out: 2, Ops: []api.Op{{Kind: api.Diff, Len: 2, Data: []byte{255, 1}}}}, []api.Symbol{old(0, 255), old(1, 1)}},
	} {
		if got := mustSymbols(t, c.p); !slices.Equal(got, c.want) {
			t.Errorf("Symbols of %v: %v, want %v", c.p, got, c.want)
		}
	}
	for _, c := range []struct {
		p    api.Patch
		want int
	}{
		{api.Patch{In: 3, Out: 2, Ops: []api.Op{{Kind: api.Copy, From: 2, Len: 2}}}, 0},
		{api.Patch{In: 3, Out: 2, Ops: []api.Op{{Kind: api.Lit, Len: 1, Data: []byte{7}}}}, 1},
	} {
		if n, e := patch.Check(c.p); n != c.want || e != api.ErrOp {
			t.Errorf("Check of %v: %d, error %d, want %d, ErrOp", c.p, n, e, c.want)
		}
	}
}

// comparePatch compares what the functions return for p with the reference. It reports whether p is right.
func comparePatch(t *testing.T, p api.Patch) bool {
	t.Helper()
	want, ok := checkOf(p)
	e := api.OK
	if !ok {
		e = api.ErrOp
	}
	if n, f := patch.Check(p); n != want || f != e {
		t.Fatalf("Check of %v: %d, error %d, want %d, error %d", p, n, f, want, e)
	}
	l, f := patch.Symbols(p)
	if f != e || !ok && len(l) > 0 {
		t.Fatalf("Symbols of %v: %v, error %d, want error %d", p, l, f, e)
	}
	if !ok {
		patch.Cost(p) // it is not specified, but ends
		return false
	}
	if !slices.Equal(l, symbolsOf(p.Ops)) {
		t.Fatalf("Symbols of %v: %v, want %v", p, l, symbolsOf(p.Ops))
	}
	if got := patch.Cost(p); got != costOf(p.Ops) {
		t.Fatalf("Cost of %v: %d, want %d", p, got, costOf(p.Ops))
	}
	return true
}

// P6.1 (F1, F2, F6), P6.5, P6.8, P1
func TestCheckSymbolsAndCost(t *testing.T) {
	right, wrong := 0, 0
	eachPatch(func(p api.Patch) {
		if comparePatch(t, p) {
			right++
		} else {
			wrong++
		}
		p.Lifted = true
		comparePatch(t, p)
	})
	if right < 2000 || wrong < 10000 {
		t.Errorf("only %d patches are right, and %d are wrong", right, wrong)
	}
}

// P6.8, P1: numbers in fields, alone and two of them, whose sums may be too great.
func TestLimitsOfNumbers(t *testing.T) {
	ones := make([]byte, 65537)
	for _, n := range numbers {
		comparePatch(t, api.Patch{In: n})
		comparePatch(t, api.Patch{Out: n})
		comparePatch(t, api.Patch{In: n, Out: n, Ops: []api.Op{{Kind: api.Run, Len: 1}}})
		for _, kind := range append(numbers, api.Copy, api.Diff, api.Run, api.Lit) {
			comparePatch(t, api.Patch{In: 3, Out: 1, Ops: []api.Op{{Kind: kind, Len: 1}}})
			for _, from := range numbers {
				for _, size := range []int{0, 1, 3, 65535, 65536} {
					o := api.Op{Kind: kind, From: from, Len: n}
					comparePatch(t, api.Patch{In: size, Out: 65536, Ops: []api.Op{o}})
					comparePatch(t, api.Patch{In: size, Out: 3, Ops: []api.Op{{Kind: api.Run, Len: 1}, o, o}})
					if n > 0 && n <= len(ones) {
						o.Data = ones[:n]
						comparePatch(t, api.Patch{In: size, Out: n, Ops: []api.Op{o}})
					}
				}
			}
		}
	}
}

// P6.1 (F1), P6.8: the most bytes and operations, and one more.
func TestLimitsOfPatches(t *testing.T) {
	one := api.Op{Kind: api.Run, Len: 1}
	half := api.Op{Kind: api.Run, Len: 32768}
	all := make([]byte, 65537)
	for what, c := range map[string]struct {
		p    api.Patch
		want int
		e    api.Errno
	}{
		"nothing":                                {api.Patch{}, 0, api.OK},
		"the greatest input":                     {api.Patch{In: 65536}, 0, api.OK},
		"a greater one":                          {api.Patch{In: 65537}, -1, api.ErrOp},
		"a negative one":                         {api.Patch{In: -1}, -1, api.ErrOp},
		"the greatest output":                    {api.Patch{Out: 65536, Ops: []api.Op{half, half}}, 2, api.OK},
		"nothing of it":                          {api.Patch{Out: 65536}, 0, api.ErrOp},
		"a greater output":                       {api.Patch{Out: 65537, Ops: []api.Op{half, half, one}}, -1, api.ErrOp},
		"a negative output":                      {api.Patch{Out: -1}, -1, api.ErrOp},
		"the longest Copy":                       {api.Patch{In: 65536, Out: 65536, Ops: []api.Op{{Kind: api.Copy, Len: 65536}}}, 1, api.OK},
		"the longest Diff":                       {api.Patch{In: 65536, Out: 65536, Ops: []api.Op{{Kind: api.Diff, Len: 65536, Data: all[:65536]}}}, 1, api.OK},
		"the longest Run":                        {api.Patch{Out: 65536, Ops: []api.Op{{Kind: api.Run, Len: 65536}}}, 1, api.OK},
		"the longest Lit":                        {api.Patch{Out: 65536, Ops: []api.Op{{Kind: api.Lit, Len: 65536, Data: all[:65536]}}}, 1, api.OK},
		"a longer Run":                           {api.Patch{Out: 65536, Ops: []api.Op{{Kind: api.Run, Len: 65537}}}, 0, api.ErrOp},
		"a longer Lit":                           {api.Patch{Out: 65536, Ops: []api.Op{{Kind: api.Lit, Len: 65537, Data: all}}}, 0, api.ErrOp},
		"the most operations":                    {api.Patch{Out: 4096, Ops: slices.Repeat([]api.Op{one}, 4096)}, 4096, api.OK},
		"one more":                               {api.Patch{Out: 4097, Ops: slices.Repeat([]api.Op{one}, 4097)}, -1, api.ErrOp},
		"more, of which the first one is wrong":  {api.Patch{Out: 4097, Ops: make([]api.Op, 4097)}, -1, api.ErrOp},
		"an input and an operation that are not": {api.Patch{In: -1, Ops: make([]api.Op, 1)}, -1, api.ErrOp},
		"a byte too much in the last operation":  {api.Patch{Out: 4095, Ops: slices.Repeat([]api.Op{one}, 4096)}, 4095, api.ErrOp},
		"a byte too few":                         {api.Patch{Out: 4097, Ops: slices.Repeat([]api.Op{one}, 4096)}, 4096, api.ErrOp},
		"too much, and then a wrong one":         {api.Patch{Out: 1, Ops: []api.Op{half, {}}}, 0, api.ErrOp},
		"a wrong one, and then too much":         {api.Patch{Out: 1, Ops: []api.Op{{}, half}}, 0, api.ErrOp},
		"lengths whose sum is 0":                 {api.Patch{Out: 0, Ops: []api.Op{{Kind: api.Run, Len: math.MinInt}, {Kind: api.Run, Len: math.MinInt}}}, 0, api.ErrOp},
	} {
		if n, e := patch.Check(c.p); n != c.want || e != c.e {
			t.Errorf("%s: %d, error %d, want %d, error %d", what, n, e, c.want, c.e)
		}
		comparePatch(t, c.p)
	}
}

// P6.4: the symbols of two parts are those of both.
func TestParts(t *testing.T) {
	eachRightPatch(func(p api.Patch) {
		all := mustSymbols(t, p)
		for _, n := range []int{0, 1, len(p.Ops) / 2, len(p.Ops)} {
			n = min(n, len(p.Ops))
			var parts []api.Symbol
			cost := 0
			for _, ops := range [][]api.Op{p.Ops[:n], p.Ops[n:]} {
				part := api.Patch{In: p.In, Out: len(symbolsOf(ops)), Ops: ops}
				parts = append(parts, mustSymbols(t, part)...)
				cost += patch.Cost(part)
			}
			if !slices.Equal(parts, all) || cost != patch.Cost(p) {
				t.Fatalf("%v cut at %d: symbols %v, cost %d, want %v, %d", p, n, parts, cost, all, patch.Cost(p))
			}
		}
	})
}

// P6.6: without the operation at which a patch is wrong, and what follows, there is nothing wrong but the output.
func TestBeforeTheFirstPlace(t *testing.T) {
	wrong := 0
	eachPatch(func(p api.Patch) {
		n, e := patch.Check(p)
		if e == api.OK || n < 0 {
			return
		}
		wrong++
		sum := 0
		for _, o := range p.Ops[:n] {
			sum += o.Len
		}
		before := api.Patch{In: p.In, Out: sum, Ops: p.Ops[:n]}
		if k, e := patch.Check(before); k != n || e != api.OK || sum > p.Out {
			t.Fatalf("%v is wrong at %d, but %v at %d: error %d", p, n, before, k, e)
		}
		if n == len(p.Ops) {
			return
		}
		with := api.Patch{In: p.In, Out: sum + p.Ops[n].Len, Ops: p.Ops[:n+1]}
		if _, e := patch.Check(with); e == api.OK && with.Out <= p.Out {
			t.Fatalf("%v is wrong at %d, but %v is right", p, n, with)
		}
	})
	if wrong < 10000 {
		t.Errorf("only %d patches are wrong", wrong)
	}
}

// P6.5: what one operation costs.
func TestCostsOfOperations(t *testing.T) {
	for _, c := range []struct {
		o    api.Op
		want int
	}{
		{api.Op{Kind: api.Copy, Len: 1}, 4},
		{api.Op{Kind: api.Copy, Len: 65536}, 4},
		{api.Op{Kind: api.Diff, Len: 1, Data: []byte{0}}, 5},
		{api.Op{Kind: api.Diff, Len: 300, Data: make([]byte, 300)}, 304},
		{api.Op{Kind: api.Run, Len: 1}, 4},
		{api.Op{Kind: api.Run, Len: 65536, B: 255}, 4},
		{api.Op{Kind: api.Lit, Len: 1, Data: []byte{0}}, 3},
		{api.Op{Kind: api.Lit, Len: 300, Data: make([]byte, 300)}, 302},
	} {
		p := api.Patch{In: 65536, Out: c.o.Len, Ops: []api.Op{c.o}}
		if got := patch.Cost(p); got != c.want {
			t.Errorf("%d of kind %d: cost %d, want %d", c.o.Len, c.o.Kind, got, c.want)
		}
	}
	if got := patch.Cost(api.Patch{In: 9}); got != 0 {
		t.Errorf("no operations: cost %d", got)
	}
}

// P6.1 (F6), P6.5
func TestWhole(t *testing.T) {
	for _, n := range []int{0, 1, 2, 100, 65535, 65536} {
		p := patch.Whole(n)
		want := []api.Op{{Kind: api.Copy, Len: n}}
		if n == 0 {
			want = nil
		}
		if p.Lifted || p.In != n || p.Out != n || !sample.SameOps(p.Ops, want) {
			t.Errorf("Whole(%d) = %v", n, p)
		}
		if got := patch.Cost(p); got != 4*len(want) {
			t.Errorf("Whole(%d) costs %d", n, got)
		}
		if b := inputOf(n); !bytes.Equal(mustApply(t, b, p), b) {
			t.Errorf("Whole(%d) makes other bytes", n)
		}
	}
}

// P1: what is not specified ends.
func TestOtherArgumentsEnd(t *testing.T) {
	for _, n := range numbers {
		patch.Whole(n)
		eachOp(func(o api.Op) {
			o.Len = n
			patch.Cost(api.Patch{Ops: []api.Op{o, o}})
		})
	}
}

// P2 (F7): arguments stay as they are, and results are new.
func TestPatchesStay(t *testing.T) {
	eachRightPatch(func(p api.Patch) {
		before, old := sample.Clone(p), inputOf(p.In)
		l, b := mustSymbols(t, p), mustApply(t, old, p)
		patch.Check(p)
		patch.Cost(p)
		clear(mustSymbols(t, p))
		clear(mustApply(t, old, p))
		if !sample.SameOps(p.Ops, before.Ops) || !bytes.Equal(old, inputOf(p.In)) {
			t.Fatalf("%v: the arguments have changed", before)
		}
		if !slices.Equal(l, mustSymbols(t, p)) || !bytes.Equal(b, mustApply(t, old, p)) {
			t.Fatalf("%v: the results of equal calls differ", p)
		}
	})
}
