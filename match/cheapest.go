package match

import (
	"bytes"
	"slices"

	"inlay/api"
)

// Costs of operations. A Diff costs more than the Lit that makes the same, so that none is among the cheapest ones.
const (
	copyCost = 4
	runCost  = 4
	litCost  = 2
	byteCost = 1 // of each byte of a Lit
)

// A score is what operations cost, and how many there are.
type score struct{ cost, ops int }

// isLess compares the numbers of operations too: of those that cost as much, a patch may have room only for the fewest.
func (s score) isLess(t score) bool {
	if s.cost != t.cost {
		return s.cost < t.cost
	}
	return s.ops < t.ops
}

// A step is the last one of the cheapest operations that make the bytes before a place.
type step struct {
	kind  int
	from  int   // where it begins
	total score // of all of these operations
}

// A choice is to make the last step an operation of some kind.
type choice struct {
	kind       int
	head, each int              // what it costs, and each byte of it besides
	first      func(to int) int // where it begins if it ends at to and is as long as possible
	window     window[score]    // of what comes before it, by the places where it may begin
}

// cheapest returns the operations that make new of old at the least cost, and as few of them as possible.
func cheapest(old, new []byte) []api.Op {
	pieces := automatonOf(old).piecesOf(new)
	steps := stepsOf(choicesFor(new, pieces), len(new))
	var ops []api.Op
	for to := len(new); to > 0; to = steps[to].from {
		made := new[steps[to].from:to]
		switch steps[to].kind {
		case api.Copy:
			ops = append(ops, copyOfEnd(pieces[to-1], len(made)))
		case api.Run:
			ops = append(ops, api.Op{Kind: api.Run, Len: len(made), B: made[0]})
		case api.Lit:
			ops = append(ops, literal(made))
		}
	}
	slices.Reverse(ops)
	return ops
}

// copyOfEnd returns the Copy of the last n bytes of a piece.
func copyOfEnd(piece api.Found, n int) api.Op {
	return api.Op{Kind: api.Copy, From: piece.At + piece.Len - n, Len: n}
}

// literal returns the Lit that makes b.
func literal(b []byte) api.Op {
	return api.Op{Kind: api.Lit, Len: len(b), Data: bytes.Clone(b)}
}

// choicesFor returns the choices for each step of making b, at whose places these pieces of the old image end. The
// functions that they have are called for one place after the other.
func choicesFor(b []byte, pieces []api.Found) []*choice {
	run := 0
	return []*choice{
		{kind: api.Copy, head: copyCost, first: func(to int) int { return to - pieces[to-1].Len }},
		{kind: api.Run, head: runCost, first: func(to int) int {
			if b[to-1] != b[run] {
				run = to - 1
			}
			return run
		}},
		{kind: api.Lit, head: litCost, each: byteCost, first: func(to int) int { return 0 }},
	}
}

// stepsOf returns the steps to all places up to n, from left to right. There is none to the place 0.
func stepsOf(choices []*choice, n int) []step {
	steps := make([]step, n+1)
	for to := 1; to <= n; to++ {
		for _, c := range choices {
			s, ok := c.stepTo(to, steps[to-1].total)
			if ok && (steps[to].kind == 0 || s.total.isLess(steps[to].total)) {
				steps[to] = s
			}
		}
	}
	return steps
}

// stepTo returns the best step of this kind to a place, and false if there is none. The score is that of all bytes but
// the one before the place. In the window, what all bytes before a place would cost is taken off its score, so that
// scores can be compared whatever place the step leads to.
func (c *choice) stepTo(to int, before score) (step, bool) {
	c.window.add(to-1, score{before.cost - c.each*(to-1), before.ops})
	c.window.begin(c.first(to))
	best, ok := c.window.least()
	if !ok {
		return step{}, false
	}
	return step{c.kind, best.at, score{best.value.cost + c.each*to + c.head, best.value.ops + 1}}, true
}
