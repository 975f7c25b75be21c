package sample

import (
	"slices"

	"inlay/api"
)

// Of returns a patch of operations.
func Of(in, out int, ops ...api.Op) api.Patch { return api.Patch{In: in, Out: out, Ops: ops} }

// Lifted returns p as a patch of lifted code.
func Lifted(p api.Patch) api.Patch {
	p.Lifted = true
	return p
}

// WrongPatches returns patches with Lifted false that are not right, each for a reason of its own.
func WrongPatches() []api.Patch {
	return []api.Patch{
		Of(3, 2), Of(3, -1), Of(3, 3, Copy(0, 2)), Of(3, 2, Copy(0, 3)), Of(3, 4, Copy(0, 3)), Of(3, 65537, Run(1, 65536), Run(1, 1)),
		Of(-1, 3, Run(1, 3)), Of(65537, 3, Run(1, 3)), Of(1<<62, 0), Of(0, 1<<62),
		Of(3, 3, api.Op{Len: 3}), Of(3, 3, api.Op{Kind: 5, Len: 3}), Of(3, 0, api.Op{Kind: api.Run}),
		Of(3, 3, Copy(1, 3)), Of(3, 3, Copy(-1, 3)), Of(3, 3, Copy(1<<62, 3)), Of(3, 3, api.Op{Kind: api.Copy, Len: 3, B: 1}),
		Of(3, 3, api.Op{Kind: api.Lit, Len: 3, Data: []byte{1}}), Of(3, 4097, slices.Repeat([]api.Op{Copy(0, 1)}, 4097)...),
	}
}

// Bytes returns n bytes, of which f tells each by its place.
func Bytes(n int, f func(i int) int) []byte {
	b := make([]byte, n)
	for i := range b {
		b[i] = byte(f(i))
	}
	return b
}

// Told returns the symbols of what makes bytes of in other ones, which are told only by what it makes of four inputs.
func Told(in int, makes func(old []byte) []byte) []api.Symbol {
	zeros := makes(Bytes(in, func(int) int { return 0 }))
	ones := makes(Bytes(in, func(int) int { return 1 }))
	low := makes(Bytes(in, func(i int) int { return i }))
	high := makes(Bytes(in, func(i int) int { return i / 256 }))
	var l []api.Symbol
	for i, b := range zeros {
		at := int(low[i]-b) + 256*int(high[i]-b)
		l = append(l, api.Symbol{Old: ones[i] != b, At: at, B: b})
	}
	return l
}

// OwnMemory reports whether f returns the same patches each time, whatever was done with the ones before, and whether
// no operation of these shares its data with another one.
func OwnMemory(f func() []api.Patch) bool {
	var want []api.Patch
	for _, p := range f() {
		want = append(want, Clone(p))
	}
	isSame := func(got []api.Patch) bool { return slices.EqualFunc(got, want, Same) }
	for k, p := range want {
		for i := range p.Ops {
			got := f()
			ops := got[k].Ops
			clear(ops[i].Data[:cap(ops[i].Data)])
			ops[i] = Clone(p).Ops[i]
			clear(ops[len(ops):cap(ops)])
			if !isSame(got) {
				return false
			}
			clear(ops)
			if got[k] = Clone(p); !isSame(got) {
				return false
			}
		}
	}
	return isSame(f())
}
