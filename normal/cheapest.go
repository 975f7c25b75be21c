package normal

import (
	"cmp"

	"inlay/api"
)

// costs are what an operation of each kind costs, and what each of its symbols costs besides.
var costs = [...]struct{ head, each int }{api.Copy: {4, 0}, api.Diff: {4, 1}, api.Run: {4, 0}, api.Lit: {2, 1}}

// A sum is what the operations of a list cost, and how many there are.
type sum struct{ cost, ops int }

// A list is a list of operations for the symbols from some place on. Only the first one is kept: the others are those of
// the best list from the place on where it ends.
type list struct {
	kind, len int // if the length is 0, there is no operation
	total     sum
}

// isBetter reports whether a is better than b, which is for the same symbols. None is worse than any list.
func (a list) isBetter(b list) bool {
	switch {
	case a.len == 0 || b.len == 0:
		return a.len > 0 && b.len == 0
	case a.total != b.total:
		return cmp.Or(cmp.Compare(a.total.cost, b.total.cost), cmp.Compare(a.total.ops, b.total.ops)) < 0
	case a.kind != b.kind:
		return a.kind < b.kind
	}
	return a.len > b.len
}

// cheapest returns the cheapest operations with the symbols l, which must be right.
func cheapest(l []api.Symbol) []api.Op {
	best := bestLists(l)
	ops := make([]api.Op, 0, best[0].total.ops)
	for from := 0; from < len(l); from += best[from].len {
		to := from + best[from].len
		ops = append(ops, made(best[from].kind, l[from:to:to]))
	}
	return ops
}

// bestLists returns the best list for the symbols of l from each place on, and after them one of nothing.
func bestLists(l []api.Symbol) []list {
	best := make([]list, len(l)+1)
	var begun [len(costs)]list // the best ones of those that begin with each kind
	for i := len(l) - 1; i >= 0; i-- {
		for kind := api.Copy; kind <= api.Lit; kind++ {
			begun[kind] = begin(kind, l[i:], best[i+1].total, begun[kind])
			if begun[kind].isBetter(best[i]) {
				best[i] = begun[kind]
			}
		}
	}
	return best
}

// begin returns the best list for the symbols l that begins with an operation of some kind, or none. It is given the
// sum of the best list for all symbols but the first one, and the best of their lists that begin with this kind.
func begin(kind int, l []api.Symbol, rest sum, begun list) list {
	if !canHave(kind, l[0]) {
		return list{}
	}
	c := costs[kind]
	one := list{kind, 1, sum{rest.cost + c.head + c.each, rest.ops + 1}}
	if begun.len == 0 || !goesOn(kind, l[0], l[1]) {
		return one
	}
	more := list{kind, begun.len + 1, sum{begun.total.cost + c.each, begun.total.ops}}
	if one.isBetter(more) {
		return one
	}
	return more
}

// canHave reports whether operations of some kind can have the symbol s.
func canHave(kind int, s api.Symbol) bool {
	switch kind {
	case api.Copy:
		return s.Old && s.B == 0
	case api.Diff:
		return s.Old
	}
	return !s.Old
}

// goesOn reports whether an operation of some kind that has the symbol s can have the next one too. Both are symbols
// that operations of this kind can have.
func goesOn(kind int, s, next api.Symbol) bool {
	switch kind {
	case api.Copy, api.Diff:
		return next.At == s.At+1
	case api.Run:
		return next.B == s.B
	}
	return true
}

// made returns the operation of some kind that has the symbols l; there is at least one of them.
func made(kind int, l []api.Symbol) api.Op {
	o := api.Op{Kind: kind, From: l[0].At, Len: len(l)}
	switch kind {
	case api.Run:
		o.B = l[0].B
	case api.Diff, api.Lit:
		o.Data = make([]byte, len(l))
		for i, s := range l {
			o.Data[i] = s.B
		}
	}
	return o
}
