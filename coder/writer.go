package coder

// The number range of the chapter is called width here, as range is a word of the language. As low, it has 32 bits.
const (
	lowBytes   = 4
	firstWidth = 1<<32 - 1
	minWidth   = 1 << 24 // so that the parts of all bytes are wider than 0, whatever the total is
)

// A writer makes a code.
type writer struct {
	list       []byte
	low, width uint32
}

func newWriter() *writer {
	return &writer{width: firstWidth}
}

// put writes the byte b, where t has the counts.
func (w *writer) put(b byte, t *table) {
	unit := w.width / t.total
	more := unit * t.before(b)
	w.low += more
	if w.low < more { // it was too great for 32 bits
		w.carry()
	}
	w.width = unit * t.counts[b]
	for w.width < minWidth {
		w.shift()
		w.width <<= 8
	}
}

// carry adds 1 to the list as one number. That never needs another byte before the list, as low and width together
// stay inside of the first width.
func (w *writer) carry() {
	for i := len(w.list) - 1; i >= 0; i-- {
		w.list[i]++
		if w.list[i] != 0 {
			return
		}
	}
}

// shift moves the first byte of low to the list.
func (w *writer) shift() {
	w.list = append(w.list, byte(w.low>>24))
	w.low <<= 8
}

// code ends the code, and returns it.
func (w *writer) code() []byte {
	for range lowBytes {
		w.shift()
	}
	code := w.list
	for endsWithZero(code) {
		code = code[:len(code)-1]
	}
	return code
}
