package coder

// A reader reads a code: it follows the numbers of the writer, and keeps only how much greater the code is than low.
// That is less than the width after each byte, so that it fits in 32 bits when one more byte of the code is read.
type reader struct {
	unread      []byte
	rest, width uint32
}

func newReader(code []byte) *reader {
	r := &reader{unread: code, width: firstWidth}
	for range lowBytes {
		r.shift()
	}
	return r
}

// next returns the next byte, where t has the counts, and false if the code is greater than those of all texts that
// begin with what was read so far.
func (r *reader) next(t *table) (byte, bool) {
	unit := r.width / t.total
	n := r.rest / unit
	if n >= t.total {
		return 0, false
	}
	b, before := t.at(n)
	r.rest -= unit * before
	r.width = unit * t.counts[b]
	for r.width < minWidth {
		r.shift()
		r.width <<= 8
	}
	return b, true
}

// shift takes one more byte of the code into account. Those that are missing at the end are 0.
func (r *reader) shift() {
	r.rest <<= 8
	if len(r.unread) > 0 {
		r.rest |= uint32(r.unread[0])
		r.unread = r.unread[1:]
	}
}

// isDone reports whether the code is exactly that of what was read.
func (r *reader) isDone() bool {
	return r.rest == 0 && len(r.unread) == 0
}
