package pack

// A writer writes numbers and bytes.
type writer struct{ written []byte }

// put writes numbers of k bytes each.
func (w *writer) put(k int, numbers ...int) {
	for _, n := range numbers {
		for i := k - 1; i >= 0; i-- {
			w.written = append(w.written, byte(n>>(8*i)))
		}
	}
}

// add writes bytes as they are.
func (w *writer) add(parts ...[]byte) {
	for _, b := range parts {
		w.written = append(w.written, b...)
	}
}

func flagOf(b bool) int {
	if b {
		return 1
	}
	return 0
}
