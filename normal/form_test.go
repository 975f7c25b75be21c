package normal_test

import (
	"math/rand/v2"
	"slices"
	"testing"

	"inlay/api"
	"inlay/normal"
	"inlay/patch"
	"inlay/sample"
)

// P8.1 (H2, H3): operations of all kinds that another list is better than.
func TestForm(t *testing.T) {
	p := api.Patch{Lifted: true, In: 9, Out: 14, Ops: []api.Op{copyOf(0, 2), diff(2, 0, 0), copyOf(4, 1), lit(5), run(5, 3), lit(5), diff(7, 0), diff(8, 1), run(6, 1), lit(6)}}
	want := []api.Op{copyOf(0, 5), run(5, 5), diff(7, 0, 1), run(6, 2)}
	q := mustForm(t, p)
	if !sample.SameOps(q.Ops, want) || !normal.Same(p, q) {
		t.Errorf("Form of %v: %v, want %v", p, q, want)
	}
}

// eachPatch calls f with random right patches.
func eachPatch(f func(p api.Patch)) {
	r := rand.New(rand.NewPCG(8, 2))
	for in := range 30 {
		for out := range 40 {
			p := sample.Patch(r.IntN, in, out)
			p.Lifted = r.IntN(2) == 0
			f(p)
		}
	}
	for _, in := range []int{0, 1, 1000, 65536} {
		for _, out := range []int{0, 1, 1000, 65536} {
			f(sample.Patch(r.IntN, in, out))
		}
	}
}

// P8.1 (H2), P8.2, P8.4
func TestFormOfPatches(t *testing.T) {
	eachPatch(func(p api.Patch) {
		q := mustForm(t, p)
		want := mustCheapest(t, symbolsOf(p), p.In)
		if want.Lifted = p.Lifted; !sample.Same(q, want) {
			t.Fatalf("Form of %v: %v, want %v", p, q, want)
		}
		if again := mustForm(t, q); !sample.Same(again, q) {
			t.Fatalf("Form of the form %v: %v", q, again)
		}
	})
}

// P8.2, P8.3, P8.4: all patches with the same symbols have the form that Cheapest has, and none costs less.
func TestOneForm(t *testing.T) {
	r := rand.New(rand.NewPCG(8, 3))
	for n := range 100 {
		l := sample.Symbols(r.IntN, n, 30)
		want := mustCheapest(t, l, 30)
		for range 20 {
			p := api.Patch{In: 30, Out: n, Ops: sample.AnyOps(r.IntN, l)}
			if q := mustForm(t, p); !sample.Same(q, want) || !normal.Same(p, want) || !normal.Same(want, p) {
				t.Fatalf("Form of %v: %v, want %v", p, q, want)
			}
		}
	}
}

// P8.5: operations one after the other, and a part of them.
func TestJoining(t *testing.T) {
	r := rand.New(rand.NewPCG(8, 4))
	for range 3000 {
		l := sample.Symbols(r.IntN, r.IntN(80), 20)
		at := r.IntN(len(l) + 1)
		a, b := sample.AnyOps(r.IntN, l[:at]), sample.AnyOps(r.IntN, l[at:])
		whole := mustForm(t, api.Patch{In: 20, Out: len(l), Ops: slices.Concat(a, b)})
		first := mustForm(t, api.Patch{In: 20, Out: at, Ops: a})
		last := mustForm(t, api.Patch{In: 20, Out: len(l) - at, Ops: b})
		cost, parts := patch.Cost(whole), []int{patch.Cost(first), patch.Cost(last)}
		if cost > parts[0]+parts[1] || cost < parts[0] || cost < parts[1] {
			t.Fatalf("%v, cut at %d: cost %d, and of the parts %v", l, at, cost, parts)
		}
	}
}

// cut returns o as two operations, the first one of which has n symbols.
func cut(o api.Op, n int) []api.Op {
	a, b := o, o
	a.Len, b.Len = n, o.Len-n
	if o.Kind == api.Copy || o.Kind == api.Diff {
		b.From += n
	}
	if o.Kind == api.Diff || o.Kind == api.Lit {
		a.Data, b.Data = o.Data[:n], o.Data[n:]
	}
	return []api.Op{a, b}
}

// P8.7: each operation at each place, and all of them at all places.
func TestCuts(t *testing.T) {
	eachPatch(func(p api.Patch) {
		if p.Out > 100 {
			return
		}
		form := mustForm(t, p)
		all := api.Patch{Lifted: p.Lifted, In: p.In, Out: p.Out}
		for i, o := range p.Ops {
			for n := 1; n < o.Len; n++ {
				q := p
				q.Ops = slices.Concat(p.Ops[:i], cut(o, n), p.Ops[i+1:])
				if !normal.Same(p, q) || !sample.Same(mustForm(t, q), form) {
					t.Fatalf("%v, and %v with a cut: not the same, or another form", p, q)
				}
			}
			for o.Len > 1 {
				two := cut(o, 1)
				all.Ops, o = append(all.Ops, two[0]), two[1]
			}
			all.Ops = append(all.Ops, o)
		}
		if !normal.Same(p, all) || !sample.Same(mustForm(t, all), form) {
			t.Fatalf("%v, and %v with all cuts: not the same, or another form", p, all)
		}
	})
}

// P8.1 (H3): what is another patch, and what is none.
func TestSame(t *testing.T) {
	p := func() api.Patch {
		return api.Patch{In: 9, Out: 6, Ops: []api.Op{copyOf(1, 2), diff(3, 0, 1), lit(5), run(5, 1)}}
	}
	for what, c := range map[string]struct {
		change func(q *api.Patch)
		want   bool
	}{
		"nothing":                       {func(q *api.Patch) {}, true},
		"other operations":              {func(q *api.Patch) { q.Ops = []api.Op{copyOf(1, 3), diff(4, 1), run(5, 2)} }, true},
		"Lifted":                        {func(q *api.Patch) { q.Lifted = true }, false},
		"a longer input":                {func(q *api.Patch) { q.In = 10 }, false},
		"one that is too short":         {func(q *api.Patch) { q.In = 4 }, false},
		"one that is too long":          {func(q *api.Patch) { q.In = 65537 }, false},
		"one symbol more":               {func(q *api.Patch) { q.Out, q.Ops = 7, append(q.Ops, lit(5)) }, false},
		"one less":                      {func(q *api.Patch) { q.Out, q.Ops = 5, q.Ops[:3] }, false},
		"a byte":                        {func(q *api.Patch) { q.Ops[3].B = 6 }, false},
		"a byte of a Lit":               {func(q *api.Patch) { q.Ops[2] = lit(6) }, false},
		"a byte that is added":          {func(q *api.Patch) { q.Ops[1] = diff(3, 0, 2) }, false},
		"a place":                       {func(q *api.Patch) { q.Ops[0].From = 2 }, false},
		"a byte of the input to one":    {func(q *api.Patch) { q.Ops = []api.Op{copyOf(1, 3), diff(4, 1), run(5, 1), copyOf(5, 1)} }, false},
		"an output that is too long":    {func(q *api.Patch) { q.Out = 7 }, false},
		"one that is too short for it":  {func(q *api.Patch) { q.Out = 5 }, false},
		"an operation of no kind":       {func(q *api.Patch) { q.Ops[3].Kind = 5 }, false},
		"an operation of nothing":       {func(q *api.Patch) { q.Ops = append(q.Ops, api.Op{Kind: api.Run}) }, false},
		"a field that has to be 0":      {func(q *api.Patch) { q.Ops[0].B = 1 }, false},
		"everything, to a patch of all": {func(q *api.Patch) { *q = patch.Whole(9) }, false},
		"everything, to nothing":        {func(q *api.Patch) { *q = api.Patch{} }, false},
	} {
		q := p()
		c.change(&q)
		if normal.Same(p(), q) != c.want || normal.Same(q, p()) != c.want {
			t.Errorf("%s: the patches are not as they should be", what)
		}
		_, e := patch.Check(q)
		if normal.Same(q, sample.Clone(q)) != (e == api.OK) {
			t.Errorf("%s: the patch and itself are not as they should be", what)
		}
	}
	if !normal.Same(api.Patch{}, api.Patch{}) || normal.Same(api.Patch{}, api.Patch{In: 1}) || !normal.Same(api.Patch{Lifted: true}, api.Patch{Lifted: true}) {
		t.Error("patches of nothing are not as they should be")
	}
}

// pieces returns symbols of which only n operations are the cheapest.
func pieces(n int) []api.Symbol {
	l := make([]api.Symbol, n)
	for i := range l {
		l[i].Old = i%2 == 0
	}
	return l
}

// P8.8, P8.1 (H1), P1
func TestLimitsOfCheapest(t *testing.T) {
	for what, c := range map[string]struct {
		l    []api.Symbol
		in   int
		want api.Errno
		ops  int
	}{
		"no symbols":                             {nil, 0, api.OK, 0},
		"none, and the greatest input":           {nil, 65536, api.OK, 0},
		"a greater one":                          {nil, 65537, api.ErrOp, 0},
		"a negative one":                         {nil, -1, api.ErrOp, 0},
		"ones far beyond the limits":             {copied(0, 1), 1 << 62, api.ErrOp, 0},
		"one before them":                        {nil, -1 << 63, api.ErrOp, 0},
		"the most symbols":                       {equal(3, 65536), 0, api.OK, 1},
		"one more":                               {equal(3, 65537), 0, api.ErrOp, 0},
		"the last place of the greatest input":   {copied(65535, 1), 65536, api.OK, 1},
		"a place after the input":                {copied(3, 1), 3, api.ErrOp, 0},
		"a place after it, of a changed byte":    {olds(2, 1, 1), 3, api.ErrOp, 0},
		"a place before it":                      {copied(-1, 3), 3, api.ErrOp, 0},
		"a place of no input":                    {copied(0, 1), 0, api.ErrOp, 0},
		"a place far away":                       {copied(1<<62, 1), 3, api.ErrOp, 0},
		"a byte with a place":                    {[]api.Symbol{{At: 1, B: 5}}, 3, api.ErrOp, 0},
		"a byte with a negative place":           {[]api.Symbol{{B: 5}, {At: -1, B: 5}}, 3, api.ErrOp, 0},
		"the most operations":                    {pieces(4096), 1, api.OK, 4096},
		"one more operation":                     {pieces(4097), 1, api.ErrBig, 0},
		"as many as there may be symbols":        {pieces(65536), 1, api.ErrBig, 0},
		"more symbols than that":                 {pieces(65537), 1, api.ErrOp, 0},
		"too many operations, of a wrong symbol": {append(pieces(5000), copied(1, 1)...), 1, api.ErrOp, 0},
		"the most runs":                          {runs(4096), 0, api.OK, 4096},
		"one more run":                           {runs(4097), 0, api.ErrBig, 0},
	} {
		p, e := normal.Cheapest(c.l, c.in)
		if e != c.want || len(p.Ops) != c.ops || e != api.OK && !sample.Same(p, api.Patch{}) {
			t.Errorf("%s: %d operations, error %d, want %d, error %d", what, len(p.Ops), e, c.ops, c.want)
		}
		if e == api.OK {
			mustCheapest(t, c.l, c.in)
		}
	}
}

// runs returns the symbols of n runs, which cost less than one Lit.
func runs(n int) []api.Symbol {
	var l []api.Symbol
	for i := range n {
		l = append(l, equal(byte(i%2), 10)...)
	}
	return l
}

// P8.8, P8.1 (H2), P1: a patch that is right may have a form with too many operations.
func TestErrorsOfForm(t *testing.T) {
	for what, c := range map[string]struct {
		p    api.Patch
		want api.Errno
	}{
		"nothing":                          {api.Patch{}, api.OK},
		"nothing of lifted code":           {api.Patch{Lifted: true, In: 65536}, api.OK},
		"an input that is too long":        {api.Patch{In: 65537}, api.ErrOp},
		"a negative input":                 {api.Patch{In: -1}, api.ErrOp},
		"an output that is too long":       {api.Patch{In: 3, Out: 65537, Ops: []api.Op{run(0, 65536), run(0, 1)}}, api.ErrOp},
		"a negative output":                {api.Patch{In: 3, Out: -1}, api.ErrOp},
		"an output without operations":     {api.Patch{In: 3, Out: 1}, api.ErrOp},
		"operations without an output":     {api.Patch{In: 3, Ops: []api.Op{run(0, 1)}}, api.ErrOp},
		"a Copy after the input":           {api.Patch{In: 3, Out: 2, Ops: []api.Op{copyOf(2, 2)}}, api.ErrOp},
		"a Diff with too few bytes":        {api.Patch{In: 3, Out: 2, Ops: []api.Op{{Kind: api.Diff, Len: 2, Data: []byte{1}}}}, api.ErrOp},
		"a kind that there is not":         {api.Patch{In: 3, Out: 1, Ops: []api.Op{{Len: 1}}}, api.ErrOp},
		"the most operations":              {api.Patch{In: 1, Out: 4096, Ops: slices.Repeat([]api.Op{copyOf(0, 1)}, 4096)}, api.OK},
		"one operation more":               {api.Patch{In: 1, Out: 4097, Ops: slices.Repeat([]api.Op{copyOf(0, 1)}, 4097)}, api.ErrOp},
		"one that is split into the most":  {api.Patch{Out: 40960, Ops: []api.Op{sample.Runs(4096)}}, api.OK},
		"one that is split into one more":  {api.Patch{Out: 40970, Ops: []api.Op{sample.Runs(4097)}}, api.ErrBig},
		"the same of lifted code":          {api.Patch{Lifted: true, In: 4, Out: 40970, Ops: []api.Op{sample.Runs(4097)}}, api.ErrBig},
		"the same, and the output is less": {api.Patch{Out: 40969, Ops: []api.Op{sample.Runs(4097)}}, api.ErrOp},
	} {
		q, e := normal.Form(c.p)
		if e != c.want || e != api.OK && !sample.Same(q, api.Patch{}) {
			t.Errorf("%s: %d operations, error %d, want error %d", what, len(q.Ops), e, c.want)
		}
		if e == api.OK {
			mustForm(t, c.p)
		}
		if normal.Same(c.p, c.p) != (c.want != api.ErrOp) {
			t.Errorf("%s: whether the patch and itself are the same is wrong", what)
		}
	}
}

// H4, P2: and the data of each operation are memory of their own.
func TestNothingIsModified(t *testing.T) {
	p := api.Patch{In: 20, Out: 23, Ops: []api.Op{lit(1, 2), diff(0, 1, 0, 0), copyOf(3, 10), diff(13, 1, 2), lit(4, 5), run(5, 3), run(6, 1)}}
	before, l := sample.Clone(p), symbolsOf(p)
	want := mustForm(t, p)
	if len(want.Ops) < 5 {
		t.Fatalf("the form %v has too few operations", want)
	}
	for _, f := range []func() (api.Patch, api.Errno){
		func() (api.Patch, api.Errno) { return normal.Form(p) },
		func() (api.Patch, api.Errno) { return normal.Form(want) },
		func() (api.Patch, api.Errno) { return normal.Cheapest(l, 20) },
	} {
		if q, e := f(); e != api.OK || !sample.Same(q, want) {
			t.Errorf("%v, error %d, want %v", q, e, want)
		}
		if !sample.OwnMemory(func() []api.Patch { return []api.Patch{sample.Must(f())} }) {
			t.Errorf("of %v: the memory is shared", p)
		}
		if !sample.Same(p, before) || !slices.Equal(l, symbolsOf(before)) || !normal.Same(p, want) {
			t.Errorf("the arguments have changed to %v and %v", p, l)
		}
	}
}
