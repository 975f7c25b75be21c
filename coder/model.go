package coder

// A counter is a model at a place of a text.
type counter interface {
	// table returns the counts at this place.
	table() *table
	// pass goes on to the next place, as the byte at this one is b.
	pass(b byte)
}

// The models.
type (
	flat    struct{ counts *table } // model 0: the counts stay as they are
	single  struct{ counts *table } // model 1: they grow
	chained struct {                // model 2: each byte has counts for those that follow it
		tables [kinds]*table // nil if it was not asked for yet, as a short text needs few of them
		last   byte          // 0 at the first place
	}
)

// counterOf returns a model at the first place of a text, and whether there is such a model.
func counterOf(model int) (counter, bool) {
	switch model {
	case 0:
		return flat{newTable()}, true
	case 1:
		return single{newTable()}, true
	case 2:
		return &chained{}, true
	}
	return nil, false
}

func (m flat) table() *table { return m.counts }

func (m flat) pass(b byte) {}

func (m single) table() *table { return m.counts }

func (m single) pass(b byte) { m.counts.grow(b) }

func (m *chained) table() *table {
	if m.tables[m.last] == nil {
		m.tables[m.last] = newTable()
	}
	return m.tables[m.last]
}

func (m *chained) pass(b byte) {
	m.table().grow(b)
	m.last = b
}
