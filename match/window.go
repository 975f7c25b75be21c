package match

// A window has values at places, and tells the least one from some place on. Places only grow: those at which values
// are put in, and those before which they are taken out.
type window[T interface{ isLess(T) bool }] struct {
	kept []placed[T] // in the order of their places; none is greater than one behind it
}

// placed is a value at a place.
type placed[T any] struct {
	at    int
	value T
}

// add puts in the value at a place. Greater ones before it will not be the least any more, as they are taken out
// before it is.
func (w *window[T]) add(at int, value T) {
	n := len(w.kept)
	for n > 0 && value.isLess(w.kept[n-1].value) {
		n--
	}
	w.kept = append(w.kept[:n], placed[T]{at, value})
}

// begin takes out what is before a place.
func (w *window[T]) begin(at int) {
	for len(w.kept) > 0 && w.kept[0].at < at {
		w.kept = w.kept[1:]
	}
}

// least returns the least value, and of equal ones the first, and false if there is none.
func (w *window[T]) least() (placed[T], bool) {
	if len(w.kept) == 0 {
		return placed[T]{}, false
	}
	return w.kept[0], true
}
