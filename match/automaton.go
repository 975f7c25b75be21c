package match

import (
	"maps"

	"inlay/api"
)

// A state stands for pieces of a text that end at the same places. The bytes that follow any of them are the same,
// and the shorter ones are ends of the longer ones.
type state struct {
	next map[byte]int // where each byte leads that follows somewhere
	link int          // the state of the longest end of these pieces that ends at other places too
	size int          // how many bytes the longest piece has
	end  int          // the first place at which they end
}

const (
	start   = 0  // the state of the empty piece; no byte leads to it
	nowhere = -1 // the link of start
)

// An automaton has states for all pieces of a text. It is in the state last after the whole text.
type automaton struct {
	states []state
	last   int
}

func automatonOf(text []byte) *automaton {
	a := &automaton{states: []state{{next: map[byte]int{}, link: nowhere}}}
	for _, c := range text {
		a.extend(c)
	}
	return a
}

// extend puts c at the end of the text. The ends of the text so far are those of the states linked from last: each
// of them, with c, is a new piece, or one that now ends at one more place.
func (a *automaton) extend(c byte) {
	size := a.states[a.last].size + 1
	added := a.add(state{next: map[byte]int{}, link: start, size: size, end: size})
	at := a.last
	for ; at != nowhere && a.states[at].next[c] == start; at = a.states[at].link {
		a.states[at].next[c] = added
	}
	if at != nowhere {
		a.states[added].link = a.endedBy(at, c)
	}
	a.last = added
}

// endedBy returns the state of the longest piece of the state at, with c. Longer pieces of the state that c leads to
// do not end at the new end of the text, so that they must be parted from this one.
func (a *automaton) endedBy(at int, c byte) int {
	longer := a.states[at].next[c]
	size := a.states[at].size + 1
	if a.states[longer].size == size {
		return longer
	}
	s := a.states[longer]
	parted := a.add(state{next: maps.Clone(s.next), link: s.link, size: size, end: s.end})
	a.states[longer].link = parted
	for ; at != nowhere && a.states[at].next[c] == longer; at = a.states[at].link {
		a.states[at].next[c] = parted
	}
	return parted
}

func (a *automaton) add(s state) int {
	a.states = append(a.states, s)
	return len(a.states) - 1
}

// piecesOf returns, for each byte of b, the longest piece of the text with which b ends there, and a place of it in
// the text.
func (a *automaton) piecesOf(b []byte) []api.Found {
	pieces := make([]api.Found, len(b))
	at, size := start, 0
	for i, c := range b {
		for at != start && a.states[at].next[c] == start {
			at = a.states[at].link
			size = a.states[at].size
		}
		if next := a.states[at].next[c]; next != start {
			at = next
			size++
		}
		pieces[i] = api.Found{At: a.states[at].end - size, Len: size}
	}
	return pieces
}
