package merge

import (
	"iter"

	"inlay/api"
)

// touches reports whether a patch with the symbol s at the place i touches it.
func touches(i int, s api.Symbol) bool {
	return s != api.Symbol{Old: true, At: i}
}

// readBy tells for each place whether a patch with the symbols l reads it. As the patch is even, there are as many
// places in the input as there are symbols.
func readBy(l []api.Symbol) []bool {
	isRead := make([]bool, len(l))
	for _, s := range where(l, touches) {
		if s.Old {
			isRead[s.At] = true
		}
	}
	return isRead
}

// clashes returns the ranges of the places at which patches with the symbols a and b clash.
func clashes(a, b []api.Symbol) []api.Range {
	clash := func(i int, s api.Symbol) bool {
		return touches(i, s) && touches(i, b[i]) && s != b[i]
	}
	return ranges(where(a, clash))
}

// disturbs reports whether a patch with the symbols a touches a place that one with the symbols b touches or reads.
func disturbs(a, b []api.Symbol) bool {
	isRead := readBy(b)
	for i := range where(a, touches) {
		if touches(i, b[i]) || isRead[i] {
			return true
		}
	}
	return false
}

// where yields the places of the elements of l that is accepts, in order, and these elements.
func where[T any](l []T, is func(i int, x T) bool) iter.Seq2[int, T] {
	return func(yield func(int, T) bool) {
		for i, x := range l {
			if is(i, x) && !yield(i, x) {
				return
			}
		}
	}
}

// ranges returns the ranges of the places that an iterator yields in order. What stands there does not matter.
func ranges[T any](places iter.Seq2[int, T]) []api.Range {
	var l []api.Range
	for i := range places {
		if n := len(l); n > 0 && l[n-1].To == i {
			l[n-1].To++
			continue
		}
		l = append(l, api.Range{From: i, To: i + 1})
	}
	return l
}
