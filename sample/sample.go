// Package sample has what the tests of several packages share: inputs, and ways to check results. The program does not
// use it.
package sample

import (
	"bytes"
	"slices"

	"inlay/api"
)

// EachText calls f with all texts of up to n bytes, each of which is one of those of the string. They are new memory.
func EachText(n int, of string, f func(b []byte)) {
	var extend func(b []byte)
	extend = func(b []byte) {
		f(b)
		if len(b) >= n {
			return
		}
		for i := range len(of) {
			extend(append(bytes.Clone(b), of[i]))
		}
	}
	extend(nil)
}

// Text returns n bytes, each of which is one of those of the string: choose(k) returns a number from 0 to k - 1.
func Text(choose func(k int) int, n int, of string) []byte {
	b := make([]byte, n)
	for i := range b {
		b[i] = of[choose(len(of))]
	}
	return b
}

// Patch returns a right patch with Lifted false, for inputs and outputs of some numbers of bytes within the limits.
// It has operations of all kinds, not always in the cheapest form: choose(k) returns a number from 0 to k - 1.
func Patch(choose func(k int) int, in, out int) api.Patch {
	p := api.Patch{In: in, Out: out}
	longest := 6 + out/1024 // so that there are few enough operations, but many of a short output
	for left := out; left > 0; {
		o := op(choose, in, 1+choose(min(left, longest)))
		p.Ops = append(p.Ops, o)
		left -= o.Len
	}
	return p
}

// op returns a right operation of n bytes for inputs of in bytes.
func op(choose func(k int) int, in, n int) api.Op {
	o := api.Op{Kind: api.Run + choose(2), Len: n}
	if n <= in && choose(2) == 0 {
		o.Kind = api.Copy + choose(2)
		o.From = choose(in - n + 1)
	}
	switch o.Kind {
	case api.Run:
		o.B = byte(choose(256))
	case api.Diff, api.Lit:
		o.Data = Text(choose, n, "\x00\x00\x01\x07\xff")
	}
	return o
}

// Symbols returns n right symbols for inputs of in bytes. Most of them go on as the ones before, so that operations of
// all kinds and of many lengths suit them: choose(k) returns a number from 0 to k - 1.
func Symbols(choose func(k int) int, n, in int) []api.Symbol {
	var l []api.Symbol
	change := 2 + choose(12) // how rarely something changes
	at, old, b := 0, false, byte(0)
	for range n {
		if choose(change) == 0 {
			old = !old
		}
		if choose(change) == 0 {
			b = byte(max(0, choose(5)-2))
		}
		at++
		if at >= in || choose(change) == 0 {
			at = choose(max(in, 1))
		}
		s := api.Symbol{B: b}
		if old && in > 0 {
			s.Old, s.At = true, at
		}
		l = append(l, s)
	}
	return l
}

// Code returns code of n words. Some of them have targets, all of which are inside: choose(k) returns a number from 0
// to k - 1.
func Code(choose func(k int) int, n int) []byte {
	var b []byte
	for i := range n {
		b = append(b, word(choose, i, n)...)
	}
	return b
}

// word returns the word i of code of n words.
func word(choose func(k int) int, i, n int) []byte {
	distance := choose(n) - i
	register := byte(choose(16))
	switch choose(8) {
	case 0:
		return []byte{byte(5 + choose(2)), byte(distance >> 16), byte(distance >> 8), byte(distance)}
	case 1, 2:
		return []byte{7, register, byte(distance >> 8), byte(distance)}
	case 3:
		distance = choose(n - i) // a pool is not before its word
		return []byte{8, register, byte(distance >> 8), byte(distance)}
	}
	return []byte{byte(1 + choose(4)), register, byte(choose(16)), byte(choose(16))}
}

// Must returns v. A test that needs it cannot go on if there is an error.
func Must[T any](v T, e api.Errno) T {
	if e != api.OK {
		panic(e)
	}
	return v
}

// Clone returns p with memory of its own.
func Clone(p api.Patch) api.Patch {
	p.Ops = slices.Clone(p.Ops)
	for i := range p.Ops {
		p.Ops[i].Data = bytes.Clone(p.Ops[i].Data)
	}
	return p
}

// Same compares patches; nil and empty lists are the same.
func Same(p, q api.Patch) bool {
	return p.Lifted == q.Lifted && p.In == q.In && p.Out == q.Out && SameOps(p.Ops, q.Ops)
}

// SameOps compares operations; nil and empty data are the same.
func SameOps(a, b []api.Op) bool {
	return slices.EqualFunc(a, b, func(o, q api.Op) bool {
		return o.Kind == q.Kind && o.From == q.From && o.Len == q.Len && o.B == q.B && bytes.Equal(o.Data, q.Data)
	})
}
