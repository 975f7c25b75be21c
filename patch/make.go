package patch

import "inlay/api"

// Of returns a patch with the symbols l, for inputs of in bytes.
func Of(l []api.Symbol, in int) (api.Patch, api.Errno) {
	if !isSize(in) || !isSize(len(l)) || !areRight(l, in) {
		return api.Patch{}, api.ErrOp
	}
	ops := operationsOf(l)
	if len(ops) > api.MaxOps {
		return api.Patch{}, api.ErrBig
	}
	return api.Patch{In: in, Out: len(l), Ops: ops}, api.OK
}

// areRight reports whether the symbols l are right for inputs of in bytes.
func areRight(l []api.Symbol, in int) bool {
	for _, s := range l {
		isInside := 0 <= s.At && s.At < in
		if s.Old && !isInside || !s.Old && s.At != 0 {
			return false
		}
	}
	return true
}

// operationsOf cuts symbols, which must be right, into operations. Two neighbors alone tell whether one operation may
// have both, so there are as few as possible if the cuts are only where it may not.
func operationsOf(l []api.Symbol) []api.Op {
	var ops []api.Op
	from := 0
	for to := 1; to <= len(l); to++ {
		if to == len(l) || !goOn(l[to-1], l[to]) {
			ops = append(ops, made(l[from:to]))
			from = to
		}
	}
	return ops
}

// goOn reports whether the operation of the symbol s may have the next one too.
func goOn(s, next api.Symbol) bool {
	return kindOf(s) == kindOf(next) && (!s.Old || next.At == s.At+1)
}

// kindOf returns the kind of the operation that Of makes of a symbol.
func kindOf(s api.Symbol) int {
	switch {
	case !s.Old:
		return api.Lit
	case s.B != 0:
		return api.Diff
	}
	return api.Copy
}

// made returns the operation with symbols that one may have; there is at least one of them.
func made(l []api.Symbol) api.Op {
	o := api.Op{Kind: kindOf(l[0]), From: l[0].At, Len: len(l)}
	if o.Kind == api.Copy {
		return o
	}
	o.Data = make([]byte, len(l))
	for i, s := range l {
		o.Data[i] = s.B
	}
	return o
}
