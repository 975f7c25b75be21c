package patch

import "inlay/api"

// Costs of operations: a head, and one for each byte of data.
const (
	headCost    = 4
	litHeadCost = 2 // no place, and no byte but the data
)

// An operation is one of some kind.
type operation interface {
	// isRight reports whether the operation, whose length must be in its range, is right for inputs of in bytes.
	isRight(in int) bool
	cost() int
	// appendSymbols appends the symbols of the operation, which must be right.
	appendSymbols(l []api.Symbol) []api.Symbol
}

// The kinds of operations.
type (
	copyOp api.Op
	diffOp api.Op
	runOp  api.Op
	litOp  api.Op
	noOp   struct{} // stands for those of any other kind, which are never right
)

func operationOf(o api.Op) operation {
	switch o.Kind {
	case api.Copy:
		return copyOp(o)
	case api.Diff:
		return diffOp(o)
	case api.Run:
		return runOp(o)
	case api.Lit:
		return litOp(o)
	}
	return noOp{}
}

func (o copyOp) isRight(in int) bool {
	return isPart(o.From, o.Len, in) && o.B == 0 && len(o.Data) == 0
}

func (o copyOp) cost() int { return headCost }

func (o copyOp) appendSymbols(l []api.Symbol) []api.Symbol {
	for i := range o.Len {
		l = append(l, api.Symbol{Old: true, At: o.From + i})
	}
	return l
}

func (o diffOp) isRight(in int) bool {
	return isPart(o.From, o.Len, in) && o.B == 0 && len(o.Data) == o.Len
}

func (o diffOp) cost() int { return headCost + o.Len }

func (o diffOp) appendSymbols(l []api.Symbol) []api.Symbol {
	for i, b := range o.Data {
		l = append(l, api.Symbol{Old: true, At: o.From + i, B: b})
	}
	return l
}

func (o runOp) isRight(in int) bool {
	return o.From == 0 && len(o.Data) == 0
}

func (o runOp) cost() int { return headCost }

func (o runOp) appendSymbols(l []api.Symbol) []api.Symbol {
	for range o.Len {
		l = append(l, api.Symbol{B: o.B})
	}
	return l
}

func (o litOp) isRight(in int) bool {
	return o.From == 0 && o.B == 0 && len(o.Data) == o.Len
}

func (o litOp) cost() int { return litHeadCost + o.Len }

func (o litOp) appendSymbols(l []api.Symbol) []api.Symbol {
	for _, b := range o.Data {
		l = append(l, api.Symbol{B: b})
	}
	return l
}

func (noOp) isRight(in int) bool { return false }

func (noOp) cost() int { return 0 }

func (noOp) appendSymbols(l []api.Symbol) []api.Symbol { return l }

// isPart reports whether n bytes from a place on are inside of in bytes, where n is in the range of lengths. The sum
// of the place and n might be too great for an int.
func isPart(from, n, in int) bool {
	return 0 <= from && from <= in-n
}
