package normal_test

import (
	"math/rand/v2"
	"slices"
	"testing"

	"inlay/api"
	"inlay/patch"
	"inlay/sample"
)

// olds returns the symbols of bytes of the input from a place on, with these bytes added.
func olds(from int, add ...byte) []api.Symbol {
	var l []api.Symbol
	for i, b := range add {
		l = append(l, api.Symbol{Old: true, At: from + i, B: b})
	}
	return l
}

// copied returns the symbols of n bytes of the input from a place on.
func copied(from, n int) []api.Symbol {
	return olds(from, make([]byte, n)...)
}

// literals returns the symbols of bytes.
func literals(bytes ...byte) []api.Symbol {
	var l []api.Symbol
	for _, b := range bytes {
		l = append(l, api.Symbol{B: b})
	}
	return l
}

// equal returns the symbols of n equal bytes.
func equal(b byte, n int) []api.Symbol {
	return slices.Repeat(literals(b), n)
}

// The operations in tables.
var copyOf, diff, run, lit = sample.Copy, sample.Diff, sample.Run, sample.Lit

// P8.1 (H1), P8.3: the examples of the chapter, and others that are worked out by hand.
func TestExamples(t *testing.T) {
	for what, c := range map[string]struct {
		l    []api.Symbol
		want []api.Op
		cost int
	}{
		"nothing":                                   {nil, nil, 0},
		"bytes that are copied":                     {copied(0, 3), []api.Op{copyOf(0, 3)}, 4},
		"one that is changed between others":        {olds(0, 0, 1, 0), []api.Op{diff(0, 0, 1, 0)}, 7},
		"a byte":                                    {literals(5), []api.Op{lit(5)}, 3},
		"two equal bytes":                           {literals(5, 5), []api.Op{run(5, 2)}, 4},
		"two other bytes":                           {literals(5, 6), []api.Op{lit(5, 6)}, 4},
		"a short run between others":                {literals(1, 7, 7, 7, 7, 2), []api.Op{lit(1, 7, 7, 7, 7, 2)}, 8},
		"a byte and a long run":                     {slices.Concat(literals(1), equal(7, 11)), []api.Op{lit(1), run(7, 11)}, 7},
		"a byte and a run that costs as much":       {slices.Concat(literals(1), equal(7, 4)), []api.Op{lit(1, 7, 7, 7, 7)}, 7},
		"a byte and a run that is one longer":       {slices.Concat(literals(1), equal(7, 5)), []api.Op{lit(1), run(7, 5)}, 7},
		"a run of six between others":               {slices.Concat(literals(1), equal(7, 6), literals(2)), []api.Op{lit(1, 7, 7, 7, 7, 7, 7, 2)}, 10},
		"a run of seven between others":             {slices.Concat(literals(1), equal(7, 7), literals(2)), []api.Op{lit(1), run(7, 7), lit(2)}, 10},
		"two runs that cost as much as one Lit":     {literals(1, 1, 1, 2, 2, 2), []api.Op{lit(1, 1, 1, 2, 2, 2)}, 8},
		"two runs that cost less":                   {literals(1, 1, 1, 1, 2, 2, 2), []api.Op{run(1, 4), run(2, 3)}, 8},
		"three short ones":                          {literals(1, 1, 2, 2, 3, 3), []api.Op{lit(1, 1, 2, 2, 3, 3)}, 8},
		"one that is changed at the end":            {olds(0, 0, 0, 0, 0, 1), []api.Op{diff(0, 0, 0, 0, 0, 1)}, 9},
		"one that is changed at the start":          {olds(0, 1, 0, 0, 0, 0), []api.Op{diff(0, 1, 0, 0, 0, 0)}, 9},
		"one that is changed after more":            {olds(0, 0, 0, 0, 0, 0, 1), []api.Op{copyOf(0, 5), diff(5, 1)}, 9},
		"eight bytes between changed ones":          {olds(0, 1, 0, 0, 0, 0, 0, 0, 0, 0, 1), []api.Op{diff(0, 1, 0, 0, 0, 0, 0, 0, 0, 0, 1)}, 14},
		"nine bytes between changed ones":           {olds(0, 1, 0, 0, 0, 0, 0, 0, 0, 0, 0, 1), []api.Op{diff(0, 1), copyOf(1, 9), diff(10, 1)}, 14},
		"a byte that is changed":                    {olds(3, 255), []api.Op{diff(3, 255)}, 5},
		"bytes of two places":                       {slices.Concat(copied(0, 2), copied(5, 1)), []api.Op{copyOf(0, 2), copyOf(5, 1)}, 8},
		"the same byte twice":                       {slices.Concat(copied(2, 1), copied(2, 1)), []api.Op{copyOf(2, 1), copyOf(2, 1)}, 8},
		"bytes in the other order":                  {slices.Concat(olds(2, 1), olds(1, 1)), []api.Op{diff(2, 1), diff(1, 1)}, 10},
		"a byte between copied ones":                {slices.Concat(copied(2, 1), literals(9), copied(3, 1)), []api.Op{copyOf(2, 1), lit(9), copyOf(3, 1)}, 11},
		"a byte 0 after the copied byte 0":          {slices.Concat(copied(0, 1), literals(0)), []api.Op{copyOf(0, 1), lit(0)}, 7},
		"a run, then the first byte with one added": {slices.Concat(equal(0, 2), olds(0, 1)), []api.Op{run(0, 2), diff(0, 1)}, 9},
	} {
		p := mustCheapest(t, c.l, 12)
		if !sample.SameOps(p.Ops, c.want) || patch.Cost(p) != c.cost {
			t.Errorf("%s: %v, cost %d, want %v, cost %d", what, p.Ops, patch.Cost(p), c.want, c.cost)
		}
		check(t, c.l, 12, bestOf(c.l))
	}
}

// P8.1 (H1), P8.3, P8.8: all lists of few symbols, right ones and others, against all lists of operations.
func TestShortLists(t *testing.T) {
	var extend func(l, of []api.Symbol, n int)
	extend = func(l, of []api.Symbol, n int) {
		var best []api.Op
		if areRight(l, 3) {
			best = bestOfAll(l)
		}
		for in := range 4 {
			check(t, l, in, best)
		}
		if len(l) == n {
			return
		}
		for _, s := range of {
			extend(append(slices.Clip(l), s), of, n)
		}
	}
	symbols := slices.Concat(copied(0, 3), olds(0, 1, 1), literals(0, 7))
	wrong := []api.Symbol{{At: 1}, {At: -1, B: 7}, {Old: true, At: 3}, {Old: true, At: -1}, {Old: true, At: -1, B: 1}}
	extend(nil, symbols, 5)
	extend(nil, slices.Concat(wrong, symbols), 3)
	extend(nil, literals(0, 7), 7)
}

// P8.1 (H1), P8.3: changed and copied bytes in order, against all lists of operations.
func TestShortTexts(t *testing.T) {
	sample.EachText(7, "\x00\x01", func(b []byte) {
		check(t, olds(1, b...), 13, bestOfAll(olds(1, b...)))
	})
	sample.EachText(13, "\x00\x01", func(b []byte) {
		check(t, olds(1, b...), 14, bestOf(olds(1, b...)))
		check(t, literals(b...), 0, bestOf(literals(b...)))
	})
}

// P8.1 (H1), P8.3, P8.8: more symbols.
func TestLists(t *testing.T) {
	r := rand.New(rand.NewPCG(8, 1))
	for n := range 80 {
		for _, in := range []int{0, 1, 2, 10, 200} {
			for range 5 {
				l := sample.Symbols(r.IntN, n, in)
				best := bestOf(l)
				check(t, l, in, best)
				check(t, l, in+1, best)
				check(t, l, in-1, best)
			}
		}
	}
}

// P8.6: bytes that are equal, or copied in order, of all lengths.
func TestRunsAndCopies(t *testing.T) {
	for _, n := range []int{1, 2, 3, 4, 100, 4097, 65535, 65536} {
		for _, b := range []byte{0, 7, 255} {
			want := run(b, n)
			if n == 1 {
				want = lit(b)
			}
			if p := mustCheapest(t, equal(b, n), 0); !sample.SameOps(p.Ops, []api.Op{want}) {
				t.Errorf("%d bytes %d: %v", n, b, p.Ops)
			}
		}
		for _, from := range []int{0, 1, 100, 65536 - n} {
			if from+n > 65536 {
				continue
			}
			for _, in := range []int{from + n, 65536} {
				if p := mustCheapest(t, copied(from, n), in); !sample.SameOps(p.Ops, []api.Op{copyOf(from, n)}) {
					t.Errorf("%d bytes from %d: %v", n, from, p.Ops)
				}
			}
		}
	}
}

// P8.3: what the cheapest patch of the longest texts costs, whose cuts are known.
func TestLongLists(t *testing.T) {
	every := make([]byte, 65536)
	for i := range every {
		every[i] = byte(i % 2)
	}
	rarely := make([]byte, 65536)
	for i := range rarely {
		rarely[i] = byte(i / 40 % 2 * (i % 40 / 39)) // one byte of 80
	}
	for what, c := range map[string]struct {
		l    []api.Symbol
		ops  int
		cost int
	}{
		"bytes 0 and 1 in turn":        {literals(every...), 1, 65538},
		"every other byte is changed":  {olds(0, every...), 1, 65540},
		"every 80th byte is changed":   {olds(0, rarely...), 2*819 + 1, 819*9 + 4},
		"every 80th byte is another":   {literals(rarely...), 2*819 + 1, 819*7 + 4},
		"all bytes are moved by one":   {slices.Concat(copied(1, 65535), copied(0, 1)), 2, 8},
		"all bytes, from last to last": {slices.Concat(literals(9), copied(0, 65534), literals(9)), 3, 10},
	} {
		if p := mustCheapest(t, c.l, 65536); len(p.Ops) != c.ops || patch.Cost(p) != c.cost {
			t.Errorf("%s: %d operations, cost %d, want %d, cost %d", what, len(p.Ops), patch.Cost(p), c.ops, c.cost)
		}
	}
}
