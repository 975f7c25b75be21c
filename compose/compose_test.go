package compose_test

import (
	"bytes"
	"math/rand/v2"
	"slices"
	"testing"

	"inlay/api"
	"inlay/compose"
	"inlay/label"
	"inlay/match"
	"inlay/normal"
	"inlay/patch"
	"inlay/sample"
)

// The operations in tables.
var copyOf, diff, run, lit = sample.Copy, sample.Diff, sample.Run, sample.Lit

// Patches of them.
var of, lifted = sample.Of, sample.Lifted

// P9.1 (I2), P9.2: the examples of the chapter, and others that are worked out by hand.
func TestExamples(t *testing.T) {
	turn := of(6, 6, copyOf(2, 4), copyOf(0, 2))
	for what, c := range map[string]struct{ p, q, want api.Patch }{
		"a part of a part, and bytes":          {of(3, 2, copyOf(1, 2)), of(2, 2, copyOf(1, 1), run(9, 1)), of(3, 2, copyOf(2, 1), lit(9))},
		"what is added is taken away":          {of(2, 2, diff(0, 1, 2)), of(2, 2, diff(0, 255, 254)), of(2, 2, copyOf(0, 2))},
		"a part of a run":                      {of(0, 4, run(5, 4)), of(4, 2, copyOf(0, 2)), of(0, 2, run(5, 2))},
		"one byte of a run":                    {of(0, 4, run(5, 4)), of(4, 1, copyOf(3, 1)), of(0, 1, lit(5))},
		"what is added is added up":            {of(3, 3, diff(0, 1, 2, 255)), of(3, 3, diff(0, 1, 254, 2)), of(3, 3, diff(0, 2, 0, 1))},
		"something is added to a run":          {of(0, 3, run(5, 3)), of(3, 3, diff(0, 1, 255, 251)), of(0, 3, lit(6, 4, 0))},
		"a run is made":                        {of(0, 3, lit(6, 4, 0)), of(3, 3, diff(0, 255, 1, 5)), of(0, 3, run(5, 3))},
		"bytes are exchanged":                  {of(6, 6, copyOf(0, 6)), turn, turn},
		"bytes are exchanged, and then all":    {turn, of(6, 6, copyOf(0, 6)), turn},
		"bytes are exchanged three times":      {of(6, 6, copyOf(4, 2), copyOf(0, 4)), turn, of(6, 6, copyOf(0, 6))},
		"neighbors of three patches":           {of(6, 4, copyOf(0, 2), copyOf(4, 2)), of(4, 4, copyOf(2, 2), copyOf(0, 2)), of(6, 4, copyOf(4, 2), copyOf(0, 2))},
		"neighbors meet":                       {of(9, 6, copyOf(3, 3), lit(7), copyOf(6, 2)), of(6, 5, copyOf(0, 3), copyOf(4, 2)), of(9, 5, copyOf(3, 5))},
		"bytes put in are left out":            {of(4, 6, copyOf(0, 2), lit(8, 9), copyOf(2, 2)), of(6, 4, copyOf(0, 2), copyOf(4, 2)), of(4, 4, copyOf(0, 4))},
		"bytes left out are put in":            {of(4, 2, copyOf(0, 1), copyOf(3, 1)), of(2, 4, copyOf(0, 1), lit(8, 9), copyOf(1, 1)), of(4, 4, copyOf(0, 1), lit(8, 9), copyOf(3, 1))},
		"a byte many times":                    {of(9, 1, diff(4, 7)), of(1, 3, copyOf(0, 1), copyOf(0, 1), copyOf(0, 1)), of(9, 3, diff(4, 7), diff(4, 7), diff(4, 7))},
		"a byte put in many times":             {of(9, 1, lit(7)), of(1, 3, copyOf(0, 1), diff(0, 1), copyOf(0, 1)), of(9, 3, lit(7, 8, 7))},
		"nothing of what there was":            {of(9, 5, copyOf(2, 5)), of(5, 3, run(1, 3)), of(9, 3, run(1, 3))},
		"nothing of anything":                  {of(3, 0), of(0, 0), of(3, 0)},
		"something of nothing":                 {of(3, 0), of(0, 2, lit(1, 2)), of(3, 2, lit(1, 2))},
		"nothing of something":                 {of(3, 2, lit(1, 2)), of(2, 0), of(3, 0)},
		"a Diff that changes nothing":          {of(3, 3, diff(0, 0, 0, 0)), of(3, 3, diff(0, 0, 0, 0)), of(3, 3, copyOf(0, 3))},
		"a changed byte between others":        {of(3, 3, copyOf(0, 1), diff(1, 4), copyOf(2, 1)), of(3, 3, copyOf(0, 3)), of(3, 3, diff(0, 0, 4, 0))},
		"two changed bytes, far from another":  {of(20, 20, diff(0, 1), copyOf(1, 19)), of(20, 20, copyOf(0, 19), diff(19, 1)), of(20, 20, diff(0, 1), copyOf(1, 18), diff(19, 1))},
		"two changed bytes, near to another":   {of(8, 8, diff(0, 1), copyOf(1, 7)), of(8, 8, copyOf(0, 7), diff(7, 1)), of(8, 8, diff(0, 1, 0, 0, 0, 0, 0, 0, 1))},
		"cuts that the other one does not see": {of(4, 4, copyOf(0, 1), copyOf(1, 3)), of(4, 4, copyOf(0, 3), copyOf(3, 1)), of(4, 4, copyOf(0, 4))},
	} {
		if got := mustCompose(t, c.p, c.q); !sample.Same(got, c.want) {
			t.Errorf("%s: %v, want %v", what, got, c.want)
		}
		if got := mustCompose(t, lifted(c.p), lifted(c.q)); !sample.Same(got, lifted(c.want)) {
			t.Errorf("%s, lifted: %v, want %v", what, got, lifted(c.want))
		}
		check(t, c.p, c.q)
	}
}

// eachList calls f with random lists of n patches, of which each fits the one before.
func eachList(n int, f func(r *rand.Rand, l []api.Patch)) {
	r := rand.New(rand.NewPCG(9, uint64(n)))
	next := func(of func() int) {
		in, isLifted := of(), r.IntN(2) == 0
		var l []api.Patch
		for range n {
			out := of()
			p := sample.Patch(r.IntN, in, out)
			p.Lifted = isLifted
			l, in = append(l, p), out
		}
		f(r, l)
	}
	for most := range 40 {
		for range 50 {
			next(func() int { return r.IntN(most + 1) })
		}
	}
	for range 20 {
		next(func() int { return []int{0, 1, 1000, 65535, 65536}[r.IntN(5)] })
	}
}

// P9.1 (I2), P9.2: random patches that fit, and what both make of an image.
func TestCompose(t *testing.T) {
	eachList(2, func(r *rand.Rand, l []api.Patch) {
		p, q := l[0], l[1]
		both, e := check(t, p, q)
		if e != api.OK {
			return
		}
		input := sample.Bytes(p.In, func(int) int { return r.IntN(256) })
		isLifted := both.Lifted
		if both.Lifted = false; !bytes.Equal(sample.Must(patch.Apply(input, both)), inTurn(input, p, q)) || isLifted != p.Lifted {
			t.Fatalf("%v and %v: %v, which makes other bytes, or is of another kind", p, q, both)
		}
	})
}

// P9.1 (I2), P9.2, P9.7: all pairs of short patches, those that fit and others.
func TestComposeShortPatches(t *testing.T) {
	fit := 0
	for _, p := range sample.ShortPatches() {
		for _, q := range sample.ShortPatches() {
			if _, e := check(t, p, q); e == api.OK {
				fit++
			}
		}
	}
	if fit < 10000 {
		t.Errorf("only %d pairs fit", fit)
	}
}

// P9.2: lifted code of lifted code of lifted code.
func TestComposeLiftedCode(t *testing.T) {
	r := rand.New(rand.NewPCG(9, 100))
	for range 300 {
		a := sample.Code(r.IntN, r.IntN(40))
		b := someChange(r, a)
		c := someChange(r, b)
		p, q := sample.Must(match.Code(a, b)), sample.Must(match.Code(b, c))
		both, e := check(t, p, q)
		if e != api.OK || !both.Lifted {
			t.Fatalf("%v and %v: %v, error %d", p, q, both, e)
		}
		if got, e := patch.Apply(a, both); e != api.OK || !bytes.Equal(got, c) {
			t.Fatalf("%v and %v: %v, which makes %x of %x, error %d, want %x", p, q, both, got, a, e, c)
		}
	}
}

// someChange returns other code, or the same with words put in.
func someChange(r *rand.Rand, code []byte) []byte {
	if r.IntN(2) == 0 {
		return sample.Code(r.IntN, r.IntN(40))
	}
	return sample.Must(label.Moved(code, r.IntN(len(code)/4+1), r.IntN(6)))
}

// P9.3: in either grouping, if both are patches.
func TestGrouping(t *testing.T) {
	eachList(3, func(r *rand.Rand, l []api.Patch) {
		left, e := compose.Compose(l[0], l[1])
		right, f := compose.Compose(l[1], l[2])
		if e != api.OK || f != api.OK {
			return // too many operations
		}
		a, e := compose.Compose(left, l[2])
		b, f := compose.Compose(l[0], right)
		if e != f || !sample.Same(a, b) {
			t.Fatalf("%v: %v, error %d, and %v, error %d", l, a, e, b, f)
		}
	})
}

// P9.4: before the whole patch and after it; a patch whose form has too many operations is refused as that is.
func TestNeutral(t *testing.T) {
	compare := func(p api.Patch) {
		before, after := patch.Whole(p.In), patch.Whole(p.Out)
		before.Lifted, after.Lifted = p.Lifted, p.Lifted
		want, e := normal.Form(p)
		a, f := compose.Compose(before, p)
		b, g := compose.Compose(p, after)
		if e != f || e != g || !sample.Same(a, want) || !sample.Same(b, want) {
			t.Fatalf("%v: %v, error %d, and %v, error %d, want %v, error %d", p, a, f, b, g, want, e)
		}
	}
	eachList(1, func(r *rand.Rand, l []api.Patch) { compare(l[0]) })
	for _, n := range []int{0, 1, 2, 1000, 65535, 65536} {
		compare(patch.Whole(n))
		compare(lifted(patch.Whole(n)))
	}
	compare(manyRuns(4096))
	compare(manyRuns(4097))
}

// manyRuns returns a Lit whose form is n runs.
func manyRuns(n int) api.Patch { return of(0, 10*n, sample.Runs(n)) }

// P9.5: other operations with the same symbols, and the least cost.
func TestLeast(t *testing.T) {
	eachList(2, func(r *rand.Rand, l []api.Patch) {
		both, e := compose.Compose(l[0], l[1])
		if e != api.OK || both.Out > 100 {
			return
		}
		symbols := symbolsOf(l[0], l[1])
		if cost := leastCost(symbols); patch.Cost(both) != cost {
			t.Fatalf("%v: %v, cost %d, want %d", l, both, patch.Cost(both), cost)
		}
		other := both
		for range 5 {
			other.Ops = sample.AnyOps(r.IntN, symbols)
			if !normal.Same(both, other) || patch.Cost(other) < patch.Cost(both) {
				t.Fatalf("%v: %v, and %v costs less, or does something else", l, both, other)
			}
		}
	})
}

// The third example of the document: one byte is added to all bytes, and taken away again.
func TestAddedAndTakenAway(t *testing.T) {
	for _, n := range []int{1, 2, 1000, 65536} {
		for _, add := range []byte{0, 1, 128, 255} {
			p, q := of(n, n, diff(0, bytes.Repeat([]byte{add}, n)...)), of(n, n, diff(0, bytes.Repeat([]byte{-add}, n)...))
			if got := mustCompose(t, p, q); !sample.Same(got, patch.Whole(n)) {
				t.Errorf("%d bytes, %d added: %v", n, add, got)
			}
		}
	}
}

// P9.7: all pairs of what is wrong, in the order of errors; P1.
func TestRefusals(t *testing.T) {
	fits, short, code := of(3, 3, copyOf(0, 3)), of(2, 3, run(1, 3)), lifted(of(3, 3, copyOf(0, 3)))
	wrong := append(sample.WrongPatches(), lifted(of(3, 2)), lifted(of(2, 3)))
	for what, c := range map[string]struct {
		p, q api.Patch
		want api.Errno
	}{
		"what fits":                               {fits, fits, api.OK},
		"lifted ones":                             {code, code, api.OK},
		"the second input is too short":           {fits, short, api.ErrLength},
		"the second input is too long":            {of(3, 2, copyOf(0, 2)), fits, api.ErrLength},
		"the second one reads nothing of it":      {fits, of(4, 1, lit(1)), api.ErrLength},
		"the first one makes nothing":             {of(3, 0), of(1, 0), api.ErrLength},
		"a lifted one, and then one that is not":  {code, fits, api.ErrKind},
		"one that is not, and then a lifted one":  {fits, code, api.ErrKind},
		"the same, and the lengths do not fit":    {code, short, api.ErrKind},
		"the same, and nothing is made":           {lifted(of(0, 0)), of(1, 0), api.ErrKind},
		"lifted ones whose lengths do not fit":    {code, lifted(short), api.ErrLength},
		"the longest patches":                     {patch.Whole(65536), patch.Whole(65536), api.OK},
		"the longest patch, and one shorter":      {patch.Whole(65536), patch.Whole(65535), api.ErrLength},
		"no bytes, and no operations":             {api.Patch{}, api.Patch{}, api.OK},
		"no bytes, and no operations, one lifted": {api.Patch{}, api.Patch{Lifted: true}, api.ErrKind},
	} {
		if got, e := check(t, c.p, c.q); e != c.want || e != api.OK && !sample.Same(got, api.Patch{}) {
			t.Errorf("%s: %v, error %d, want %d", what, got, e, c.want)
		}
	}
	for _, p := range wrong {
		for _, q := range append([]api.Patch{fits, short, code}, wrong...) {
			for _, pair := range [][2]api.Patch{{p, q}, {q, p}} {
				if got, e := check(t, pair[0], pair[1]); e != api.ErrOp || !sample.Same(got, api.Patch{}) {
					t.Errorf("%v: %v, error %d, want ErrOp", pair, got, e)
				}
			}
		}
	}
}

// turned returns a patch that turns n pieces of 16 bytes around.
func turned(n int) api.Patch {
	p := of(16*n, 16*n)
	for i := range n {
		p.Ops = append(p.Ops, copyOf(16*(n-1-i), 16))
	}
	return p
}

// P9.1 (I2), P1: the most operations of a composed patch, and one more, though there are few enough in both patches.
func TestLimitsOfOperations(t *testing.T) {
	p := turned(4096)
	n := p.Out
	for what, c := range map[string]struct {
		q    api.Patch
		want api.Errno
		ops  int
	}{
		"everything":                       {patch.Whole(n), api.OK, 4096},
		"one piece is cut":                 {of(n, n, copyOf(8, n-8), copyOf(0, 8)), api.ErrBig, 0},
		"one piece is cut, one left out":   {of(n, n-16, copyOf(8, n-24), copyOf(0, 8)), api.OK, 4096},
		"one byte is put in":               {of(n, n, lit(1), copyOf(1, n-1)), api.ErrBig, 0},
		"one piece is a byte now":          {of(n, n-15, lit(1), copyOf(16, n-16)), api.OK, 4096},
		"all pieces again":                 {p, api.OK, 1},
		"pieces that begin at other bytes": {of(n, n, slices.Concat([]api.Op{copyOf(0, 8)}, shifted(4095), []api.Op{copyOf(n-8, 8)})...), api.ErrOp, 0},
		"all but one of them":              {of(n, n-8, slices.Concat(shifted(4095), []api.Op{copyOf(n-8, 8)})...), api.ErrBig, 0},
		"half of them":                     {of(n, 16*2048, shifted(2048)...), api.OK, 4096},
		"some more":                        {of(n, 16*2049, shifted(2049)...), api.ErrBig, 0},
	} {
		got, e := check(t, p, c.q)
		if e != c.want || len(got.Ops) != c.ops {
			t.Errorf("%s: %d operations, error %d, want %d, error %d", what, len(got.Ops), e, c.ops, c.want)
		}
		if e != api.OK && !sample.Same(got, api.Patch{}) {
			t.Errorf("%s: %v, error %d", what, got, e)
		}
	}
}

// shifted returns n Copies of 16 bytes that begin between those of turned, from the last one back.
func shifted(n int) []api.Op {
	var ops []api.Op
	for i := range n {
		ops = append(ops, copyOf(65536-24-16*i, 16))
	}
	return ops
}

// I4, P2: the result is memory of its own, and so are the data of each operation.
func TestComposeModifiesNothing(t *testing.T) {
	p := of(20, 23, lit(1, 2), diff(0, 1, 0, 0), copyOf(3, 10), diff(13, 1, 2), lit(4, 5), run(5, 3), run(6, 1))
	q := of(23, 28, copyOf(0, 12), diff(12, 1), copyOf(13, 10), lit(1, 2, 3), diff(2, 4, 4))
	beforeP, beforeQ := sample.Clone(p), sample.Clone(q)
	for _, f := range []func() (api.Patch, api.Errno){
		func() (api.Patch, api.Errno) { return compose.Compose(p, q) },
		func() (api.Patch, api.Errno) { return compose.All([]api.Patch{p, q}) },
		func() (api.Patch, api.Errno) { return compose.All([]api.Patch{p}) },
	} {
		if got := sample.Must(f()); len(got.Ops) < 5 {
			t.Fatalf("%v has too few operations", got)
		}
		if !sample.OwnMemory(func() []api.Patch { return []api.Patch{sample.Must(f())} }) {
			t.Errorf("of %v and %v: the memory is shared", p, q)
		}
		if !sample.Same(p, beforeP) || !sample.Same(q, beforeQ) {
			t.Errorf("the arguments have changed to %v and %v", p, q)
		}
	}
}
