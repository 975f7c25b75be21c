package coder

const (
	kinds    = 256     // how many different bytes there are
	growth   = 32      // by how much the count of a byte grows
	maxTotal = 1 << 16 // counts with a greater total are halved
)

// A table has the counts of all bytes, and their total.
type table struct {
	counts [kinds]uint32
	total  uint32
}

// newTable returns a table whose counts are all 1.
func newTable() *table {
	t := &table{total: kinds}
	for i := range t.counts {
		t.counts[i] = 1
	}
	return t
}

// before returns the sum before b.
func (t *table) before(b byte) uint32 {
	sum := uint32(0)
	for _, n := range t.counts[:b] {
		sum += n
	}
	return sum
}

// at returns the byte whose part of the total n is in, and the sum before it. n is less than the total.
func (t *table) at(n uint32) (b byte, before uint32) {
	for before+t.counts[b] <= n {
		before += t.counts[b]
		b++
	}
	return b, before
}

// grow changes the counts after the byte b of a text.
func (t *table) grow(b byte) {
	t.counts[b] += growth
	t.total += growth
	if t.total > maxTotal {
		t.halve()
	}
}

// halve rounds up, so that no count becomes 0, and each byte can still be coded.
func (t *table) halve() {
	t.total = 0
	for i, n := range t.counts {
		t.counts[i] = (n + 1) / 2
		t.total += t.counts[i]
	}
}
