package split

import (
	"iter"

	"inlay/api"
	"inlay/normal"
	"inlay/patch"
)

// plainSymbols returns the symbols of a patch that may be cut: one that is right, and not for lifted code.
func plainSymbols(p api.Patch) ([]api.Symbol, api.Errno) {
	l, e := patch.Symbols(p)
	if e != api.OK {
		return nil, e
	}
	if p.Lifted {
		return nil, api.ErrKind
	}
	return l, api.OK
}

// symbolsOfAll returns the symbols of the patches of l, which must be right, one after the other. The end of the list is
// cut, so that nothing more can be put into the memory that it grew in.
func symbolsOfAll(l []api.Patch) []api.Symbol {
	var all []api.Symbol
	for _, p := range l {
		symbols, _ := patch.Symbols(p) // no error, as p is right
		all = append(all, symbols...)
	}
	return all[:len(all):len(all)]
}

// inSections yields the symbols of each section of l. None of the lists can grow into the next section.
func inSections(symbols []api.Symbol, l []api.Section) iter.Seq[[]api.Symbol] {
	return func(yield func([]api.Symbol) bool) {
		for _, s := range l {
			if !yield(symbols[s.From:s.To:s.To]) {
				return
			}
		}
	}
}

// parts yields the cheapest patch for each list of symbols, with its error. The later ones are made only if they are
// asked for.
func parts(lists iter.Seq[[]api.Symbol], in int) iter.Seq2[api.Patch, api.Errno] {
	return func(yield func(api.Patch, api.Errno) bool) {
		for l := range lists {
			if !yield(normal.Cheapest(l, in)) {
				return
			}
		}
	}
}

// collect returns the patches that are yielded, or the first error.
func collect(patches iter.Seq2[api.Patch, api.Errno]) ([]api.Patch, api.Errno) {
	var l []api.Patch
	for p, e := range patches {
		if e != api.OK {
			return nil, e
		}
		l = append(l, p)
	}
	return l, api.OK
}
