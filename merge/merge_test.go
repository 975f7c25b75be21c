package merge_test

import (
	"math/rand/v2"
	"slices"
	"testing"

	"inlay/api"
	"inlay/merge"
	"inlay/patch"
	"inlay/sample"
)

// The operations in tables, and patches of them.
var (
	copyOf, diff, run, lit = sample.Copy, sample.Diff, sample.Run, sample.Lit
	of, lifted             = sample.Of, sample.Lifted
)

// even returns a patch of operations for inputs of as many bytes as they make.
func even(ops ...api.Op) api.Patch {
	n := 0
	for _, o := range ops {
		n += o.Len
	}
	return of(n, n, ops...)
}

// at returns the ranges from each first number up to the second one.
func at(l ...int) []api.Range {
	var ranges []api.Range
	for i := 0; i < len(l); i += 2 {
		ranges = append(ranges, api.Range{From: l[i], To: l[i+1]})
	}
	return ranges
}

// P11.1 (K1): the examples of the chapter, and others that are worked out by hand.
func TestPlaces(t *testing.T) {
	for what, c := range map[string]struct {
		p             api.Patch
		touched, read []api.Range
	}{
		"a byte put in":                         {even(copyOf(0, 1), lit(9), copyOf(2, 2)), at(1, 2), nil},
		"a run":                                 {even(copyOf(0, 1), run(9, 3)), at(1, 4), nil},
		"a byte that is changed, from another":  {even(copyOf(0, 3), diff(0, 1)), at(3, 4), at(0, 1)},
		"nothing":                               {even(), nil, nil},
		"nothing changes":                       {even(copyOf(0, 4)), nil, nil},
		"nothing changes, in pieces":            {even(copyOf(0, 1), diff(1, 0, 0), copyOf(3, 1)), nil, nil},
		"a byte added to a byte":                {even(copyOf(0, 2), diff(2, 1), copyOf(3, 1)), at(2, 3), at(2, 3)},
		"bytes added to some of them":           {even(diff(0, 0, 1, 255, 0, 0, 128)), at(1, 3, 5, 6), at(1, 3, 5, 6)},
		"everything is put in":                  {even(lit(0, 1, 2)), at(0, 3), nil},
		"halves are exchanged":                  {even(copyOf(2, 2), copyOf(0, 2)), at(0, 4), at(0, 4)},
		"a byte stays between others":           {even(copyOf(2, 1), copyOf(1, 1), copyOf(0, 1)), at(0, 1, 2, 3), at(0, 1, 2, 3)},
		"a half is copied over the other one":   {even(copyOf(2, 2), copyOf(2, 2)), at(0, 2), at(2, 4)},
		"the same, the other way":               {even(copyOf(0, 2), copyOf(0, 2)), at(2, 4), at(0, 2)},
		"a byte many times":                     {even(copyOf(2, 1), copyOf(2, 1), copyOf(2, 1), copyOf(2, 1)), at(0, 2, 3, 4), at(2, 3)},
		"bytes move by one place":               {even(lit(7), copyOf(0, 4)), at(0, 5), at(0, 4)},
		"bytes move the other way":              {even(copyOf(1, 4), lit(7)), at(0, 5), at(1, 5)},
		"what is touched is read elsewhere":     {even(lit(7), copyOf(1, 2), copyOf(0, 1)), at(0, 1, 3, 4), at(0, 1)},
		"a byte 0 put in":                       {even(run(0, 1), copyOf(1, 1)), at(0, 1), nil},
		"a byte 0 added to another byte":        {even(diff(1, 0), copyOf(1, 1)), at(0, 1), at(1, 2)},
		"bytes read in another order":           {even(copyOf(5, 1), copyOf(3, 1), copyOf(2, 2), copyOf(4, 2)), at(0, 2), at(3, 4, 5, 6)},
		"two kinds of changes next to another":  {even(copyOf(0, 1), lit(9), diff(2, 1), run(3, 1), copyOf(4, 1)), at(1, 4), at(2, 3)},
		"every other byte":                      {even(lit(1), copyOf(1, 1), lit(1), copyOf(3, 1), lit(1)), at(0, 1, 2, 3, 4, 5), nil},
		"the last byte":                         {even(copyOf(0, 3), copyOf(2, 1)), at(3, 4), at(2, 3)},
		"something that is not touched is read": {even(copyOf(0, 2), copyOf(1, 1)), at(2, 3), at(1, 2)},
		"the longest one":                       {even(copyOf(65535, 1), copyOf(1, 65534), lit(1)), at(0, 1, 65535, 65536), at(65535, 65536)},
		"the longest one, everywhere":           {even(run(3, 65536)), at(0, 65536), nil},
		"the longest one that changes nothing":  {even(copyOf(0, 65536)), nil, nil},
	} {
		for _, p := range []api.Patch{c.p, lifted(c.p)} {
			touched, read := checkPlaces(t, p)
			if !slices.Equal(touched, c.touched) || !slices.Equal(read, c.read) {
				t.Errorf("%s: touched are %v, want %v, and read are %v, want %v", what, touched, c.touched, read, c.read)
			}
		}
	}
}

// The patches of the chapter's examples.
var (
	chapterP = even(copyOf(0, 1), lit(9), copyOf(2, 2))
	chapterQ = even(copyOf(0, 3), diff(0, 1))
	chapterR = even(copyOf(0, 1), run(9, 3))
)

// P11.1 (K2, K3, K4): the examples of the chapter, and others that are worked out by hand, in both orders.
func TestPairs(t *testing.T) {
	zeros := lit(make([]byte, 65536)...)
	for what, c := range map[string]struct {
		p, q        api.Patch
		clashes     []api.Range
		merged      api.Patch // if they do not clash
		independent bool
	}{
		"p and q":                                {chapterP, chapterQ, nil, even(copyOf(0, 1), lit(9), copyOf(2, 1), diff(0, 1)), true},
		"p and r":                                {chapterP, chapterR, nil, chapterR, false},
		"q and r":                                {chapterQ, chapterR, at(3, 4), even(), false},
		"nothing, and nothing":                   {even(), even(), nil, even(), true},
		"no changes, and no changes":             {even(copyOf(0, 4)), even(diff(0, 0, 0), copyOf(2, 2)), nil, even(copyOf(0, 4)), true},
		"no changes, and something":              {even(copyOf(0, 4)), chapterP, nil, chapterP, true},
		"the same":                               {chapterP, chapterP, nil, chapterP, false},
		"the same, by other operations":          {even(run(9, 3), copyOf(3, 1)), even(lit(9, 9), run(9, 1), diff(3, 0)), nil, even(run(9, 3), copyOf(3, 1)), false},
		"other bytes at a place":                 {even(copyOf(0, 2), lit(1)), even(copyOf(0, 2), lit(2)), at(2, 3), even(), false},
		"a byte, and a byte of the input":        {even(copyOf(0, 2), lit(0)), even(copyOf(0, 2), copyOf(0, 1)), at(2, 3), even(), false},
		"bytes of other places":                  {even(copyOf(1, 1), copyOf(1, 2)), even(copyOf(2, 1), copyOf(1, 2)), at(0, 1), even(), false},
		"a byte, and the same with one added":    {even(copyOf(1, 1), copyOf(1, 1)), even(diff(1, 1), copyOf(1, 1)), at(0, 1), even(), false},
		"other bytes added":                      {even(diff(0, 1)), even(diff(0, 2)), at(0, 1), even(), false},
		"the same byte added":                    {even(diff(0, 1)), even(diff(0, 1)), nil, even(diff(0, 1)), false},
		"halves, exchanged and put in":           {even(copyOf(2, 2), copyOf(0, 2)), even(copyOf(0, 2), run(5, 2)), at(2, 4), even(), false},
		"clashes in two pieces":                  {even(lit(1, 2, 3, 4, 5)), even(lit(9, 9, 3), copyOf(3, 1), lit(9)), at(0, 2, 4, 5), even(), false},
		"one of many places":                     {even(run(1, 9)), even(run(1, 4), lit(2), run(1, 4)), at(4, 5), even(), false},
		"everything, twice":                      {even(run(1, 4)), even(run(2, 4)), at(0, 4), even(), false},
		"neighbors":                              {even(copyOf(0, 1), lit(3), copyOf(2, 1)), even(copyOf(0, 2), lit(4)), nil, even(copyOf(0, 1), lit(3, 4)), true},
		"equal neighbors":                        {even(run(7, 2), copyOf(2, 2)), even(copyOf(0, 2), run(7, 2)), nil, even(run(7, 4)), true},
		"one reads what the other one puts in":   {chapterP, even(copyOf(0, 3), copyOf(1, 1)), nil, even(copyOf(0, 1), lit(9), copyOf(2, 1), copyOf(1, 1)), false},
		"both read what the other one puts in":   {even(copyOf(1, 1), copyOf(1, 1)), even(copyOf(0, 1), copyOf(0, 1)), nil, even(copyOf(1, 1), copyOf(0, 1)), false},
		"both read the same place":               {even(copyOf(2, 1), copyOf(1, 2)), even(copyOf(0, 1), copyOf(2, 1), copyOf(2, 1)), nil, even(copyOf(2, 1), copyOf(2, 1), copyOf(2, 1)), true},
		"each one reads its own place":           {even(diff(0, 1), copyOf(1, 1)), even(copyOf(0, 1), diff(1, 2)), nil, even(diff(0, 1, 2)), true},
		"each one reads its own half":            {even(copyOf(1, 1), copyOf(0, 1), copyOf(2, 2)), even(copyOf(0, 2), copyOf(3, 1), copyOf(2, 1)), nil, even(copyOf(1, 1), copyOf(0, 1), copyOf(3, 1), copyOf(2, 1)), true},
		"a copied piece, each has a half of it":  {even(copyOf(4, 2), copyOf(2, 6)), even(copyOf(0, 2), copyOf(6, 2), copyOf(4, 4)), nil, even(copyOf(4, 4), copyOf(4, 4)), true},
		"a copied piece, each has some of it":    {even(copyOf(4, 3), copyOf(3, 5)), even(copyOf(0, 1), copyOf(5, 3), copyOf(4, 4)), nil, even(copyOf(4, 4), copyOf(4, 4)), false},
		"the longest ones":                       {even(lit(1), copyOf(1, 65535)), even(copyOf(0, 65535), lit(2)), nil, even(lit(1), copyOf(1, 65534), lit(2)), true},
		"the longest ones, from end to end":      {even(copyOf(65535, 1), copyOf(1, 65535)), even(copyOf(0, 65535), lit(2)), nil, even(copyOf(65535, 1), copyOf(1, 65534), lit(2)), false},
		"the longest ones, everywhere":           {even(zeros), even(run(0, 65536)), nil, even(run(0, 65536)), false},
		"the longest ones that clash at the end": {even(zeros), even(run(0, 65535), lit(1)), at(65535, 65536), even(), false},
		"the longest ones that clash before it":  {even(zeros), even(lit(1), run(0, 65534), copyOf(65535, 1)), at(0, 1), even(), false},
	} {
		for _, two := range [][2]api.Patch{{c.p, c.q}, {c.q, c.p}, {lifted(c.p), lifted(c.q)}} {
			if l := checkClashes(t, two[0], two[1]); !slices.Equal(l, c.clashes) {
				t.Errorf("%s: they clash at %v, want %v", what, l, c.clashes)
			}
			want, e := c.merged, api.OK
			if len(c.clashes) > 0 {
				want, e = even(), api.ErrClash
			} else {
				want.Lifted = two[0].Lifted
			}
			if got, f := checkMerge(t, two[0], two[1]); f != e || !sample.Same(got, want) {
				t.Errorf("%s: merged they are %v, error %d, want %v, error %d", what, got, f, want, e)
			}
			if _, _, f := checkCommute(t, two[0], two[1]); (f == api.OK) != c.independent {
				t.Errorf("%s: error %d if they are exchanged", what, f)
			}
		}
	}
}

// P11.1 (K1, K2, K3, K4), P11.8: all pairs of short patches, those that fit and others.
func TestShortPatches(t *testing.T) {
	l := sample.ShortPatches()
	for _, p := range l {
		checkPlaces(t, p)
		checkPlaces(t, lifted(p))
		for _, q := range l {
			checkPair(t, p, q)
			checkPair(t, p, lifted(q))
		}
	}
}

// shortEffects returns patches of all lists of three of these symbols.
func shortEffects(symbols ...api.Symbol) []api.Patch {
	var l []api.Patch
	for _, a := range symbols {
		for _, b := range symbols {
			for _, c := range symbols {
				l = append(l, sample.Must(patch.Of([]api.Symbol{a, b, c}, 3)))
			}
		}
	}
	return l
}

// P11.1 (K1, K2, K3, K4): all pairs of patches of three symbols.
func TestShortEffects(t *testing.T) {
	old := func(at int, b byte) api.Symbol { return api.Symbol{Old: true, At: at, B: b} }
	l := shortEffects(old(0, 0), old(1, 0), old(2, 0), old(1, 1), api.Symbol{B: 0})
	for _, p := range l {
		checkPlaces(t, p)
		for _, q := range l {
			checkPair(t, p, q)
		}
	}
}

// P11.1 (K1, K2, K3, K4): random patches, of which any two fit, and others.
func TestPatches(t *testing.T) {
	eachTriple(func(_ *rand.Rand, l [3]api.Patch) {
		checkPlaces(t, l[0])
		checkPair(t, l[0], l[1])
	})
	r := rand.New(rand.NewPCG(11, 1))
	for range 3000 {
		n := r.IntN(30)
		p, q := sample.Patch(r.IntN, n, n), sample.Patch(r.IntN, n+r.IntN(2), n+r.IntN(2))
		checkPlaces(t, q)
		checkPair(t, p, q)
		checkPair(t, q, p)
	}
	for _, n := range []int{0, 1, 1000, 65535, 65536} {
		for range 3 {
			p, q := sample.Patch(r.IntN, n, n), sample.Patch(r.IntN, n, n)
			checkPlaces(t, p)
			checkPair(t, p, q)
		}
	}
}

// P11.8: all pairs of what is wrong, in the order of errors; P1.
func TestRefusals(t *testing.T) {
	fits, code := even(copyOf(0, 3)), lifted(even(copyOf(0, 3)))
	short, long := of(3, 2, copyOf(0, 2)), of(3, 4, copyOf(0, 3), lit(1))
	for what, c := range map[string]struct {
		p, q api.Patch
		want api.Errno
	}{
		"what fits":                                  {fits, even(lit(1, 2, 3)), api.OK},
		"lifted ones":                                {code, lifted(even(lit(1, 2, 3))), api.OK},
		"nothing":                                    {even(), even(), api.OK},
		"an output that is too short":                {fits, short, api.ErrLength},
		"one that is too long":                       {fits, long, api.ErrLength},
		"an input that is longer":                    {fits, even(copyOf(0, 4)), api.ErrLength},
		"no input":                                   {fits, even(), api.ErrLength},
		"the longest patch, and one shorter":         {patch.Whole(65536), patch.Whole(65535), api.ErrLength},
		"outputs of one length, of longer inputs":    {of(4, 3, copyOf(0, 3)), of(4, 3, copyOf(1, 3)), api.ErrLength},
		"an output that is the input of the other":   {of(4, 3, copyOf(0, 3)), fits, api.ErrLength},
		"inputs and outputs that are exchanged":      {of(4, 3, copyOf(0, 3)), of(3, 4, copyOf(0, 3), lit(1)), api.ErrLength},
		"nothing of something":                       {of(3, 0), of(3, 0), api.ErrLength},
		"something of nothing":                       {of(0, 3, run(1, 3)), of(0, 3, run(1, 3)), api.ErrLength},
		"a lifted one, and another one":              {code, fits, api.ErrKind},
		"a lifted one, and one that clashes":         {lifted(even(run(1, 3))), even(run(2, 3)), api.ErrKind},
		"a lifted one, and one of another length":    {code, even(copyOf(0, 4)), api.ErrKind},
		"a lifted one, and one that is not even":     {code, short, api.ErrKind},
		"a lifted one that is not even":              {lifted(long), fits, api.ErrKind},
		"lifted ones of other lengths":               {code, lifted(even(copyOf(0, 4))), api.ErrLength},
		"lifted ones, of which one is not even":      {code, lifted(short), api.ErrLength},
		"nothing, and nothing of lifted code":        {even(), lifted(even()), api.ErrKind},
		"one that is not even, and one that clashes": {of(3, 2, run(1, 2)), even(run(2, 3)), api.ErrLength},
	} {
		for _, two := range [][2]api.Patch{{c.p, c.q}, {c.q, c.p}} {
			checkPair(t, two[0], two[1])
			if _, e := merge.Clashes(two[0], two[1]); e != c.want {
				t.Errorf("%s: error %d, want %d", what, e, c.want)
			}
		}
	}
	for _, p := range []api.Patch{fits, code, short, long, lifted(short), of(3, 0), of(0, 3, run(1, 3)), patch.Whole(65536)} {
		checkPlaces(t, p)
		for _, w := range append(sample.WrongPatches(), lifted(of(3, 2))) {
			checkPlaces(t, w)
			checkPair(t, p, w)
			checkPair(t, w, p)
			checkPair(t, w, w)
			if _, e := merge.Clashes(p, w); e != api.ErrOp {
				t.Errorf("%v and %v: error %d, want ErrOp", p, w, e)
			}
		}
	}
}

// dotted returns a patch for n bytes that puts the byte 9 at these places, which increase and have others between them.
func dotted(n int, places ...int) api.Patch {
	p := of(n, n)
	from := 0
	for _, i := range places {
		p.Ops = append(p.Ops, copyOf(from, i-from), lit(9))
		from = i + 1
	}
	if from < n {
		p.Ops = append(p.Ops, copyOf(from, n-from))
	}
	return p
}

// every returns k places from a first one on, each some steps after the one before.
func every(k, first, step int) []int {
	var l []int
	for i := range k {
		l = append(l, first+step*i)
	}
	return l
}

// spaced returns two patches: one that puts n times ten bytes 0 and ten bytes 1, of which each is a Lit and has a place
// after it, and one that puts the byte 1 at these places.
func spaced(n int) (api.Patch, api.Patch) {
	var p, q []api.Op
	for i := range n {
		p = append(p, sample.Runs(2), copyOf(21*i+20, 1))
		q = append(q, copyOf(21*i, 20), lit(1))
	}
	return even(p...), even(q...)
}

// P11.1 (K3, K4), P1: the most operations of a merged patch, and of the forms of both, and one more.
func TestLimitsOfOperations(t *testing.T) {
	n := 65536
	dots := every(2048, 31, 32) // the last one is the last byte
	first, last := dotted(n, dots[:1024]...), dotted(n, dots[1024:]...)
	some, others := dotted(n, every(2040, 15, 32)...), dotted(n, every(2040, 31, 32)...)
	clash := even(append([]api.Op{copyOf(0, 15), lit(8), copyOf(16, 15)}, others.Ops[1:]...)...)
	most, big := even(sample.Runs(4096)), even(sample.Runs(4098))
	gaps, filled := spaced(2048)
	for what, c := range map[string]struct {
		p, q   api.Patch
		merged api.Errno
		ops    int
		turned api.Errno
	}{
		"as many as there may be":         {first, last, api.OK, 4096, api.OK},
		"a byte beside another one":       {first, even(append(last.Ops[:len(last.Ops)-2:len(last.Ops)-2], copyOf(n-32, 30), lit(9, 9))...), api.OK, 4096, api.OK},
		"one operation more":              {first, dotted(n, append(dots[1024:2047:2047], n-2)...), api.ErrBig, 0, api.OK},
		"many more":                       {some, others, api.ErrBig, 0, api.OK},
		"many more, and they clash":       {some, clash, api.ErrClash, 0, api.ErrClash},
		"all runs, and no changes":        {most, patch.Whole(40960), api.OK, 4096, api.OK},
		"too many runs, and no changes":   {big, patch.Whole(40980), api.ErrBig, 0, api.ErrBig},
		"too many runs, twice":            {big, big, api.ErrBig, 0, api.ErrClash},
		"too many runs, and they clash":   {big, even(run(2, 40980)), api.ErrClash, 0, api.ErrClash},
		"too many runs of one alone":      {gaps, filled, api.OK, 4096, api.ErrBig},
		"the same, and no changes":        {gaps, patch.Whole(gaps.In), api.ErrBig, 0, api.ErrBig},
		"the other one, and no changes":   {filled, patch.Whole(gaps.In), api.OK, 4096, api.OK},
		"too many runs, which are read":   {gaps, even(copyOf(0, 20), copyOf(0, 1), copyOf(21, gaps.In-21)), api.ErrBig, 0, api.ErrClash},
		"too many runs, and what is left": {gaps, even(copyOf(0, 20), diff(20, 1), copyOf(21, gaps.In-21)), api.ErrBig, 0, api.ErrBig},
	} {
		for _, two := range [][2]api.Patch{{c.p, c.q}, {c.q, c.p}, {lifted(c.p), lifted(c.q)}} {
			if m, e := checkMerge(t, two[0], two[1]); e != c.merged || len(m.Ops) != c.ops {
				t.Errorf("%s: merged they have %d operations, error %d, want %d, error %d", what, len(m.Ops), e, c.ops, c.merged)
			}
			if _, _, e := checkCommute(t, two[0], two[1]); e != c.turned {
				t.Errorf("%s: error %d if they are exchanged, want %d", what, e, c.turned)
			}
		}
		checkNeutral(t, c.p)
		checkNeutral(t, c.q)
	}
}

// P11.5, with K3: what is merged first may have too many operations, which another patch would hide.
func TestTooManyBetween(t *testing.T) {
	n := 65536
	p, q, all := dotted(n, every(2040, 15, 32)...), dotted(n, every(2040, 31, 32)...), even(run(9, n))
	if m, e := merge.Merge(p, q); e != api.ErrBig {
		t.Errorf("two of them: %d operations, error %d, want ErrBig", len(m.Ops), e)
	}
	m := sample.Must(merge.Merge(q, all))
	if m = sample.Must(merge.Merge(p, m)); !sample.Same(m, all) {
		t.Errorf("all of them: %d operations, want one", len(m.Ops))
	}
}

// K5, P2: the results are memory of their own, and so are the data of each operation.
func TestNothingIsModified(t *testing.T) {
	p := even(copyOf(0, 9), lit(1, 2), copyOf(11, 9), diff(20, 1, 2), copyOf(22, 8), run(5, 7), copyOf(37, 3), lit(3, 4))
	q := even(diff(0, 7), copyOf(1, 4), lit(5, 6), copyOf(7, 8), lit(7), copyOf(16, 9), copyOf(3, 2), copyOf(27, 15))
	beforeP, beforeQ := sample.Clone(p), sample.Clone(q)
	for what, f := range map[string]func() []api.Patch{
		"Merge":         func() []api.Patch { return []api.Patch{sample.Must(merge.Merge(p, q))} },
		"Merge of one":  func() []api.Patch { return []api.Patch{sample.Must(merge.Merge(p, p))} },
		"Commute":       func() []api.Patch { return exchanged(p, q) },
		"the other way": func() []api.Patch { return exchanged(q, p) },
		"no changes":    func() []api.Patch { return exchanged(patch.Whole(p.In), patch.Whole(p.In)) },
	} {
		if len(f()) == 0 {
			t.Errorf("%s: there are no patches", what)
		}
		if !sample.OwnMemory(f) {
			t.Errorf("%s: the memory is shared", what)
		}
	}
	other := even(lit(9), run(8, 41))
	for what, f := range map[string]func() ([]api.Range, api.Errno){
		"Touched": func() ([]api.Range, api.Errno) { return merge.Touched(p) },
		"Read":    func() ([]api.Range, api.Errno) { return merge.Read(q) },
		"Clashes": func() ([]api.Range, api.Errno) { return merge.Clashes(p, other) },
	} {
		want := slices.Clone(sample.Must(f()))
		for range 2 {
			l := sample.Must(f())
			if len(l) < 2 || !slices.Equal(l, want) {
				t.Errorf("%s: %v, want %v", what, l, want)
			}
			clear(l[:cap(l)])
		}
	}
	if !sample.Same(p, beforeP) || !sample.Same(q, beforeQ) {
		t.Errorf("the arguments have changed to %v and %v", p, q)
	}
}

// exchanged returns what Commute returns, or nothing with an error.
func exchanged(p, q api.Patch) []api.Patch {
	first, last, e := merge.Commute(p, q)
	if e != api.OK {
		return nil
	}
	return []api.Patch{first, last}
}
