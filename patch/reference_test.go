package patch_test

import (
	"bytes"
	"math"
	"math/rand/v2"
	"slices"
	"testing"

	"inlay/api"
	"inlay/label"
	"inlay/patch"
	"inlay/sample"
)

// What follows is written from the chapter alone, the plainest way, so that it is a second opinion.

// isRightOp follows the rows of the table of operations.
func isRightOp(o api.Op, in int) bool {
	if o.Len < 1 || o.Len > 65536 {
		return false
	}
	inside := o.From >= 0 && o.From <= 65536 && o.From+o.Len <= in
	switch o.Kind {
	case 1:
		return inside && o.B == 0 && len(o.Data) == 0
	case 2:
		return inside && o.B == 0 && len(o.Data) == o.Len
	case 3:
		return o.From == 0 && len(o.Data) == 0
	case 4:
		return o.From == 0 && o.B == 0 && len(o.Data) == o.Len
	}
	return false
}

// checkOf returns what Check returns as its number, and whether p is right.
func checkOf(p api.Patch) (int, bool) {
	if p.In < 0 || p.In > 65536 || p.Out < 0 || p.Out > 65536 || len(p.Ops) > 4096 {
		return -1, false
	}
	sum := 0
	for i, o := range p.Ops {
		if !isRightOp(o, p.In) {
			return i, false
		}
		sum += o.Len
		if sum > p.Out {
			return i, false
		}
	}
	return len(p.Ops), sum == p.Out
}

// symbolsOf returns the symbols of operations that are right.
func symbolsOf(ops []api.Op) []api.Symbol {
	var l []api.Symbol
	for _, o := range ops {
		for i := 0; i < o.Len; i++ {
			s := api.Symbol{Old: o.Kind <= 2}
			if s.Old {
				s.At = o.From + i
			}
			switch o.Kind {
			case 2, 4:
				s.B = o.Data[i]
			case 3:
				s.B = o.B
			}
			l = append(l, s)
		}
	}
	return l
}

// outputOf returns the output of operations that are right, for an input that is long enough.
func outputOf(old []byte, ops []api.Op) []byte {
	var b []byte
	for _, o := range ops {
		switch o.Kind {
		case 1:
			b = append(b, old[o.From:o.From+o.Len]...)
		case 2:
			for i, d := range o.Data {
				b = append(b, byte((int(old[o.From+i])+int(d))%256))
			}
		case 3:
			b = append(b, bytes.Repeat([]byte{o.B}, o.Len)...)
		case 4:
			b = append(b, o.Data...)
		}
	}
	return b
}

// applyOf returns what Apply returns.
func applyOf(old []byte, p api.Patch) ([]byte, api.Errno) {
	if _, ok := checkOf(p); !ok {
		return nil, api.ErrOp
	}
	input := old
	if p.Lifted {
		x, e := label.Lift(old)
		if e != api.OK {
			return nil, api.ErrLabel
		}
		input = label.Form(x)
	}
	if len(input) != p.In {
		return nil, api.ErrLength
	}
	b := outputOf(input, p.Ops)
	if !p.Lifted {
		return b, api.OK
	}
	x, e := label.Read(b)
	if e != api.OK {
		return nil, api.ErrLabel
	}
	b, e = label.Lower(x)
	if e != api.OK {
		return nil, api.ErrLabel
	}
	return b, api.OK
}

// costOf returns the cost of operations that are right.
func costOf(ops []api.Op) int {
	cost := 0
	for _, o := range ops {
		cost += []int{0, 4, 4 + o.Len, 4, 2 + o.Len}[o.Kind]
	}
	return cost
}

// pieceOf returns the operation that a piece of symbols is, if it is one.
func pieceOf(l []api.Symbol) (api.Op, bool) {
	o := api.Op{Kind: 4, Len: len(l)}
	if l[0].Old {
		o.Kind, o.From = 1, l[0].At
		if l[0].B != 0 {
			o.Kind = 2
		}
	}
	for i, s := range l {
		if s.Old != l[0].Old || s.Old && (s.At != o.From+i || (s.B == 0) != (o.Kind == 1)) {
			return api.Op{}, false
		}
		if o.Kind != 1 {
			o.Data = append(o.Data, s.B)
		}
	}
	return o, true
}

// piecesOf returns as few operations as possible with the symbols, of all ways to cut them into pieces.
func piecesOf(l []api.Symbol) []api.Op {
	best := make([][]api.Op, len(l)+1) // for the first symbols
	for to := 1; to <= len(l); to++ {
		for from := range to {
			o, ok := pieceOf(l[from:to])
			if ok && (best[to] == nil || len(best[from])+1 < len(best[to])) {
				best[to] = append(slices.Clone(best[from]), o)
			}
		}
	}
	return best[len(l)]
}

// isRightSymbol reports whether a symbol is right for inputs of in bytes.
func isRightSymbol(s api.Symbol, in int) bool {
	if s.Old {
		return s.At >= 0 && s.At < in
	}
	return s.At == 0
}

// numbers are ends of ranges, ones next to them, and ones whose sums are too great for an int.
var numbers = []int{math.MinInt, math.MinInt + 1, -65536, -1, 0, 1, 2, 3, 65535, 65536, 65537, 131072, math.MaxInt - 65536, math.MaxInt - 1, math.MaxInt}

// someOps are operations of which each one is right for some input, and ones that are wrong in one of their fields.
func someOps() []api.Op {
	return []api.Op{
		{Kind: api.Copy, Len: 1}, {Kind: api.Copy, From: 1, Len: 2}, {Kind: api.Copy, From: 2, Len: 1}, {Kind: api.Copy, Len: 3},
		{Kind: api.Diff, Len: 1, Data: []byte{0}}, {Kind: api.Diff, From: 1, Len: 2, Data: []byte{255, 1}}, {Kind: api.Diff, Len: 3, Data: []byte{0, 9, 0}},
		{Kind: api.Run, Len: 1}, {Kind: api.Run, Len: 2, B: 255}, {Kind: api.Lit, Len: 1, Data: []byte{0}}, {Kind: api.Lit, Len: 2, Data: []byte{7, 8}},
		{}, {Kind: api.Copy, Len: 1, B: 1}, {Kind: api.Diff, Len: 2, Data: []byte{1}}, {Kind: api.Run, From: 1, Len: 1}, {Kind: api.Lit, Len: 1}, {Kind: 5, Len: 1},
	}
}

// eachOp gives operations to f whose fields are all combinations of some values.
func eachOp(f func(o api.Op)) {
	for kind := -1; kind <= 6; kind++ {
		for from := -1; from <= 4; from++ {
			for n := -1; n <= 4; n++ {
				for _, b := range []byte{0, 200} {
					for data := range 6 {
						f(api.Op{Kind: kind, From: from, Len: n, B: b, Data: []byte{1, 255, 0, 3, 4}[:data]})
					}
				}
			}
		}
	}
}

// eachPatch gives patches to f: with one operation, with up to three, and random ones that are right. They are for
// inputs of few bytes.
func eachPatch(f func(p api.Patch)) {
	for in := -1; in <= 3; in++ {
		for out := -1; out <= 4; out++ {
			f(api.Patch{In: in, Out: out})
			eachOp(func(o api.Op) { f(api.Patch{In: in, Out: out, Ops: []api.Op{o}}) })
		}
	}
	ops := someOps()
	for in := range 4 {
		for out := range 8 {
			for _, a := range ops {
				for _, b := range ops {
					f(api.Patch{In: in, Out: out, Ops: []api.Op{a, b}})
					for _, c := range ops {
						f(api.Patch{In: in, Out: out, Ops: []api.Op{a, b, c}})
					}
				}
			}
		}
	}
	eachRightPatch(f)
}

// eachRightPatch gives random patches that are right to f.
func eachRightPatch(f func(p api.Patch)) {
	r := rand.New(rand.NewPCG(6, 1))
	for in := range 40 {
		for out := range 40 {
			f(sample.Patch(r.IntN, in, out))
		}
	}
	for _, in := range []int{0, 1, 1000, 65535, 65536} {
		for _, out := range []int{0, 1, 1000, 65535, 65536} {
			f(sample.Patch(r.IntN, in, out))
		}
	}
}

// inputOf returns n bytes, of which neighbors differ, and so do those at all places that operations mix up easily.
func inputOf(n int) []byte {
	b := make([]byte, n)
	for i := range b {
		b[i] = byte(17*i + i/256 + 3)
	}
	return b
}

// mustSymbols returns the symbols of p.
func mustSymbols(t *testing.T, p api.Patch) []api.Symbol {
	t.Helper()
	l, e := patch.Symbols(p)
	if e != api.OK {
		t.Fatalf("Symbols of %v: error %d", p, e)
	}
	return l
}

// mustApply returns what p makes of old.
func mustApply(t *testing.T, old []byte, p api.Patch) []byte {
	t.Helper()
	b, e := patch.Apply(old, p)
	if e != api.OK {
		t.Fatalf("Apply of %v: error %d", p, e)
	}
	return b
}
