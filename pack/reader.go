package pack

import "inlay/api"

// A reader reads numbers and bytes. It panics when there are too few.
type reader struct{ unread []byte }

// take reads n bytes.
func (r *reader) take(n int) []byte {
	demand(n <= len(r.unread))
	b := r.unread[:n]
	r.unread = r.unread[n:]
	return b
}

// number reads a number of k bytes.
func (r *reader) number(k int) int {
	n := 0
	for _, b := range r.take(k) {
		n = n<<8 | int(b)
	}
	return n
}

// flag reads what is 0 or 1.
func (r *reader) flag() bool {
	n := r.number(oneByte)
	demand(n <= 1)
	return n == 1
}

// end panics if something was not read.
func (r *reader) end() {
	demand(len(r.unread) == 0)
}

// demand panics if something is not as in the bytes of all patches.
func demand(ok bool) {
	if !ok {
		panic(api.ErrDamage)
	}
}
