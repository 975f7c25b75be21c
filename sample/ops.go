package sample

import "inlay/api"

// Copy returns the Copy of n bytes from a place on.
func Copy(from, n int) api.Op { return api.Op{Kind: api.Copy, From: from, Len: n} }

// Diff returns the Diff that adds these bytes from a place on.
func Diff(from int, add ...byte) api.Op {
	return api.Op{Kind: api.Diff, From: from, Len: len(add), Data: add}
}

// Run returns the Run of n bytes b.
func Run(b byte, n int) api.Op { return api.Op{Kind: api.Run, Len: n, B: b} }

// Lit returns the Lit of these bytes.
func Lit(data ...byte) api.Op { return api.Op{Kind: api.Lit, Len: len(data), Data: data} }

// Runs returns a Lit of 10 n bytes, for which n Runs are the cheapest operations.
func Runs(n int) api.Op {
	return Lit(Bytes(10*n, func(i int) int { return i / 10 % 2 })...)
}

// Operations returns all operations that have the symbols l, of which there is at least one.
func Operations(l []api.Symbol) []api.Op {
	first, n := l[0], len(l)
	inOrder, same, unchanged := true, true, true
	var data []byte
	for i, s := range l {
		if s.Old != first.Old {
			return nil
		}
		inOrder = inOrder && s.At == first.At+i
		same = same && s.B == first.B
		unchanged = unchanged && s.B == 0
		data = append(data, s.B)
	}
	var ops []api.Op
	if first.Old && inOrder && unchanged {
		ops = append(ops, Copy(first.At, n))
	}
	if first.Old && inOrder {
		ops = append(ops, Diff(first.At, data...))
	}
	if !first.Old && same {
		ops = append(ops, Run(first.B, n))
	}
	if !first.Old {
		ops = append(ops, Lit(data...))
	}
	return ops
}

// AnyOps returns operations that have the symbols l, cut at any places: choose(k) returns a number from 0 to k - 1.
func AnyOps(choose func(k int) int, l []api.Symbol) []api.Op {
	var ops []api.Op
	for len(l) > 0 {
		possible := Operations(l[:1])
		for n := 2; n <= len(l); n++ {
			more := Operations(l[:n])
			if len(more) == 0 {
				break
			}
			possible = append(possible, more...)
		}
		o := possible[choose(len(possible))]
		ops, l = append(ops, o), l[o.Len:]
	}
	return ops
}

// ShortPatches returns patches with Lifted false of at most two short operations, for inputs of up to two bytes: all
// pairs of these operations.
func ShortPatches() []api.Patch {
	var l []api.Patch
	for in := range 3 {
		ops := shortOps(in)
		l = append(l, api.Patch{In: in})
		for _, o := range ops {
			l = append(l, api.Patch{In: in, Out: o.Len, Ops: []api.Op{o}})
			for _, q := range ops {
				l = append(l, api.Patch{In: in, Out: o.Len + q.Len, Ops: []api.Op{o, q}})
			}
		}
	}
	return l
}

// shortOps returns right operations of one or two bytes for inputs of in bytes, of all kinds and places.
func shortOps(in int) []api.Op {
	ops := []api.Op{Run(1, 1), Run(255, 2), Lit(0), Lit(1, 255)}
	for from := range in {
		for n := 1; from+n <= in; n++ {
			ops = append(ops, Copy(from, n), Diff(from, []byte{1, 255}[:n]...), Diff(from, []byte{255, 1}[:n]...))
		}
	}
	return ops
}
