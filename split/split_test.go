package split_test

import (
	"math/rand/v2"
	"slices"
	"testing"

	"inlay/api"
	"inlay/patch"
	"inlay/sample"
	"inlay/split"
)

// The operations in tables, and patches of them.
var (
	copyOf, diff, run, lit = sample.Copy, sample.Diff, sample.Run, sample.Lit
	of, lifted             = sample.Of, sample.Lifted
)

// at returns sections from each first number up to the second one.
func at(l ...int) []api.Section {
	var sections []api.Section
	for i := 0; i < len(l); i += 2 {
		sections = append(sections, api.Section{Name: string(rune('a' + i/2)), From: l[i], To: l[i+1]})
	}
	return sections
}

// code returns l as sections with code.
func code(l []api.Section) []api.Section {
	l = slices.Clone(l)
	for i := range l {
		l[i].Code = true
	}
	return l
}

// list returns its arguments.
func list(l ...api.Patch) []api.Patch { return l }

// The patch of the chapter's examples.
var chapterP = of(3, 5, copyOf(0, 3), lit(7, 8))

// P12.1 (L1): the examples of the chapter, and others that are worked out by hand.
func TestSplit(t *testing.T) {
	far, near := diff(0, 1, 0, 0, 0, 0, 0, 0, 0, 0, 0, 1), diff(0, 1, 0, 0, 0, 0, 0, 1)
	for what, c := range map[string]struct {
		p    api.Patch
		l    []api.Section
		want []api.Patch
	}{
		"no sections":                      {chapterP, nil, nil},
		"a section in the middle":          {chapterP, at(1, 4), list(of(3, 3, copyOf(1, 2), lit(7)))},
		"everything":                       {chapterP, at(0, 5), list(chapterP)},
		"two sections, and a byte between": {chapterP, at(0, 2, 3, 5), list(of(3, 2, copyOf(0, 2)), of(3, 2, lit(7, 8)))},
		"sections side by side":            {chapterP, at(0, 1, 1, 4, 4, 5), list(of(3, 1, copyOf(0, 1)), of(3, 3, copyOf(1, 2), lit(7)), of(3, 1, lit(8)))},
		"the first byte":                   {chapterP, at(0, 1), list(of(3, 1, copyOf(0, 1)))},
		"the last byte":                    {chapterP, at(4, 5), list(of(3, 1, lit(8)))},
		"code":                             {chapterP, code(at(0, 4)), list(of(3, 4, copyOf(0, 3), lit(7)))},
		"code behind something":            {of(0, 9, run(5, 9)), slices.Concat(at(0, 3), code([]api.Section{{Name: "z", From: 4, To: 8}})), list(of(0, 3, run(5, 3)), of(0, 4, run(5, 4)))},
		"no output, and no sections":       {of(3, 0), nil, nil},
		"nothing at all":                   {api.Patch{}, nil, nil},
		"a byte of a Run, and the others":  {of(0, 4, run(5, 4)), at(0, 1, 1, 4), list(of(0, 1, lit(5)), of(0, 3, run(5, 3)))},
		"equal bytes of a Lit":             {of(0, 4, lit(1, 5, 5, 2)), at(1, 3), list(of(0, 2, run(5, 2)))},
		"bytes that a Diff does not add":   {of(4, 4, diff(0, 1, 0, 0, 2)), at(0, 1, 1, 3, 3, 4), list(of(4, 1, diff(0, 1)), of(4, 2, copyOf(1, 2)), of(4, 1, diff(3, 2)))},
		"the end of a Diff is cut off":     {of(7, 7, near), at(0, 6), list(of(7, 6, diff(0, 1), copyOf(1, 5)))},
		"its begin is cut off":             {of(7, 7, near), at(1, 7), list(of(7, 6, copyOf(1, 5), diff(6, 1)))},
		"all of it":                        {of(7, 7, near), at(0, 7), list(of(7, 7, near))},
		"a Diff that was dear":             {of(11, 11, far), at(0, 11), list(of(11, 11, diff(0, 1), copyOf(1, 9), diff(10, 1)))},
		"pieces that belong together":      {of(4, 4, copyOf(0, 1), diff(1, 0), copyOf(2, 2)), at(0, 3, 3, 4), list(of(4, 3, copyOf(0, 3)), of(4, 1, copyOf(3, 1)))},
		"halves that are exchanged":        {of(4, 4, copyOf(2, 2), copyOf(0, 2)), at(0, 2, 2, 4), list(of(4, 2, copyOf(2, 2)), of(4, 2, copyOf(0, 2)))},
		"the longest section":              {patch.Whole(65536), at(0, 65536), list(patch.Whole(65536))},
		"the ends of the longest output":   {patch.Whole(65536), at(0, 1, 65535, 65536), list(of(65536, 1, copyOf(0, 1)), of(65536, 1, copyOf(65535, 1)))},
		"as many sections as there may be": {of(0, 9, run(3, 9)), at(0, 1, 1, 2, 2, 3, 3, 4, 4, 5, 5, 6, 6, 7, 7, 9), append(slices.Repeat(list(of(0, 1, lit(3))), 7), of(0, 2, run(3, 2)))},
	} {
		if got, e := checkSplit(t, c.p, c.l); e != api.OK || !sameAll(got, c.want) {
			t.Errorf("%s: %v, error %d, want %v", what, got, e, c.want)
		}
	}
}

// P12.1 (L2): the example of the chapter, and others that are worked out by hand.
func TestSectors(t *testing.T) {
	n := 65536
	each := list(of(3, 1, copyOf(0, 1)), of(3, 1, copyOf(1, 1)), of(3, 1, copyOf(2, 1)), of(3, 1, lit(7)), of(3, 1, lit(8)))
	for what, c := range map[string]struct {
		p    api.Patch
		size int
		want []api.Patch
	}{
		"sectors of a byte":                  {chapterP, 1, each},
		"sectors of 2 bytes":                 {chapterP, 2, list(of(3, 2, copyOf(0, 2)), of(3, 2, copyOf(2, 1), lit(7)), of(3, 1, lit(8)))},
		"sectors of 3 bytes":                 {chapterP, 3, list(of(3, 3, copyOf(0, 3)), of(3, 2, lit(7, 8)))},
		"all but one byte":                   {chapterP, 4, list(of(3, 4, copyOf(0, 3), lit(7)), of(3, 1, lit(8)))},
		"all bytes":                          {chapterP, 5, list(chapterP)},
		"more than all bytes":                {chapterP, 6, list(chapterP)},
		"the longest sector":                 {chapterP, 4096, list(chapterP)},
		"full sectors":                       {of(0, 6, run(1, 6)), 2, slices.Repeat(list(of(0, 2, run(1, 2))), 3)},
		"no output":                          {of(3, 0), 2, nil},
		"nothing at all":                     {api.Patch{}, 4096, nil},
		"one byte more than the longest one": {of(0, 4097, run(1, 4097)), 4096, list(of(0, 4096, run(1, 4096)), of(0, 1, lit(1)))},
		"one byte less":                      {of(0, 4095, run(1, 4095)), 4096, list(of(0, 4095, run(1, 4095)))},
		"the longest output":                 {of(0, n, run(1, n)), 4096, slices.Repeat(list(of(0, 4096, run(1, 4096))), 16)},
		"the longest output, in bytes":       {of(0, n, run(1, n)), 1, slices.Repeat(list(of(0, 1, lit(1))), n)},
	} {
		if got, e := checkSectors(t, c.p, c.size); e != api.OK || !sameAll(got, c.want) {
			t.Errorf("%s: %v, error %d, want %v", what, got, e, c.want)
		}
	}
}

// P12.1 (L3): the example of the chapter, and others that are worked out by hand.
func TestJoin(t *testing.T) {
	n := 65536
	a, b := of(4, 2, copyOf(0, 2)), of(4, 2, copyOf(2, 2))
	for what, c := range map[string]struct {
		l    []api.Patch
		want api.Patch
	}{
		"the parts for the sectors":         {list(of(3, 2, copyOf(0, 2)), of(3, 2, copyOf(2, 1), lit(7)), of(3, 1, lit(8))), chapterP},
		"two halves":                        {list(a, b), patch.Whole(4)},
		"two halves in the other order":     {list(b, a), of(4, 4, copyOf(2, 2), copyOf(0, 2))},
		"one patch":                         {list(a), a},
		"one that is no form":               {list(of(4, 4, copyOf(0, 1), diff(1, 0, 0), copyOf(3, 1))), patch.Whole(4)},
		"one without output":                {list(of(4, 0)), of(4, 0)},
		"some without output":               {list(of(4, 0), of(4, 0), of(4, 0)), of(4, 0)},
		"the same between others":           {list(of(4, 0), a, of(4, 0), b, of(4, 0)), patch.Whole(4)},
		"nothing at all":                    {list(api.Patch{}, api.Patch{}), api.Patch{}},
		"the same patch, again":             {list(a, a, a), of(4, 6, copyOf(0, 2), copyOf(0, 2), copyOf(0, 2))},
		"equal bytes":                       {list(of(0, 1, lit(5)), of(0, 1, lit(5)), of(0, 7, run(5, 7))), of(0, 9, run(5, 9))},
		"other bytes":                       {list(of(0, 2, run(5, 2)), of(0, 1, lit(6))), of(0, 3, lit(5, 5, 6))},
		"changed bytes":                     {list(of(4, 1, diff(0, 1)), of(4, 2, copyOf(1, 2)), of(4, 1, diff(3, 2))), of(4, 4, diff(0, 1, 0, 0, 2))},
		"everything twice":                  {list(patch.Whole(4), patch.Whole(4)), of(4, 8, copyOf(0, 4), copyOf(0, 4))},
		"lifted ones":                       {list(lifted(a), lifted(b)), lifted(patch.Whole(4))},
		"a lifted one":                      {list(lifted(of(4, 2, lit(3, 3)))), lifted(of(4, 2, run(3, 2)))},
		"lifted ones without output":        {list(lifted(of(9, 0)), lifted(of(9, 0))), lifted(of(9, 0))},
		"as many bytes as there may be":     {list(of(0, n-1, run(5, n-1)), of(0, 1, lit(5))), of(0, n, run(5, n))},
		"the longest one, and no more":      {list(of(0, n, run(5, n)), of(0, 0)), of(0, n, run(5, n))},
		"as many patches as there may be":   {slices.Repeat(list(of(0, 1, lit(5))), n), of(0, n, run(5, n))},
		"even more, most of them are empty": {append(slices.Repeat(list(of(9, 0)), 3*n), of(9, 1, copyOf(8, 1))), of(9, 1, copyOf(8, 1))},
	} {
		if got, e := checkJoin(t, c.l); e != api.OK || !sample.Same(got, c.want) {
			t.Errorf("%s: %v, error %d, want %v", what, got, e, c.want)
		}
	}
}

// P12.1 (L1, L2, L3): all short patches, in all sections and sectors, and all pairs of them that are for the same
// inputs, or others.
func TestShortPatches(t *testing.T) {
	l := sample.ShortPatches()
	for _, p := range l {
		for from := -1; from < 6; from++ {
			for to := -1; to < 6; to++ {
				checkSplit(t, p, at(from, to))
				checkSplit(t, p, at(0, from, from, to))
			}
		}
		for size := -1; size < 6; size++ {
			checkSectors(t, p, size)
			checkSectors(t, lifted(p), size)
		}
		for _, q := range l {
			checkJoin(t, list(p, q))
		}
		checkJoin(t, list(p, lifted(p)))
	}
}

// P12.1 (L1, L2, L3): random patches.
func TestPatches(t *testing.T) {
	eachPatch(func(r *rand.Rand, p api.Patch) {
		if _, e := checkSplit(t, p, anySections(r, p.Out)); e != api.OK && e != api.ErrBig {
			t.Fatalf("%v: error %d", p, e)
		}
		if _, e := checkSectors(t, p, anySize(r, p)); e != api.OK {
			t.Fatalf("%v: error %d", p, e)
		}
	})
	eachList(func(_ *rand.Rand, l []api.Patch) {
		if _, e := checkJoin(t, l); e != api.OK && e != api.ErrBig {
			t.Fatalf("%v: error %d", l, e)
		}
	})
}

// alternating returns n operations of one byte each, for inputs of at least one, that cannot be fewer.
func alternating(n int) []api.Op {
	return slices.Repeat([]api.Op{copyOf(0, 1), lit(0)}, n/2+1)[:n]
}

// bridged returns a patch whose form has 4096 operations. Without the last byte, there are 4097, as the Diff at the end
// is no longer cheaper than one of its first byte and a Copy.
func bridged() api.Patch {
	return of(7, 4102, append(alternating(4095), diff(0, 1, 0, 0, 0, 0, 0, 1))...)
}

// P12.1 (L1), P1: the most operations of a part, and one more.
func TestTooManyOfParts(t *testing.T) {
	big := of(0, 40970, sample.Runs(4097))
	for what, c := range map[string]struct {
		p    api.Patch
		l    []api.Section
		want api.Errno
		ops  []int
	}{
		"everything":                         {big, at(0, 40970), api.ErrBig, nil},
		"all but the last run":               {big, at(0, 40960), api.OK, []int{4096}},
		"all but the first run":              {big, at(10, 40970), api.OK, []int{4096}},
		"all but a half of both":             {big, at(5, 40965), api.ErrBig, nil},
		"two parts":                          {big, at(0, 20000, 20000, 40970), api.OK, []int{2000, 2097}},
		"two parts of a run, and all others": {big, at(0, 5, 5, 10, 10, 40970), api.OK, []int{1, 1, 4096}},
		"the last part has too many":         {big, at(0, 5, 5, 40970), api.ErrBig, nil},
		"the first part has too many":        {big, at(0, 40965, 40965, 40970), api.ErrBig, nil},
		"no sections":                        {big, nil, api.OK, nil},
		"too many, but no sections of this":  {big, at(0, 40971), api.ErrSection, nil},
		"too many, then no section":          {big, at(0, 40970, 40970, 40970), api.ErrSection, nil},
		"too many, but of lifted code":       {lifted(big), at(0, 40970), api.ErrKind, nil},
		"as many as there may be":            {of(1, 4096, alternating(4096)...), at(0, 4096), api.OK, []int{4096}},
		"as many, with a Diff at the end":    {bridged(), at(0, 4102), api.OK, []int{4096}},
		"one more, without its last byte":    {bridged(), at(0, 4101), api.ErrBig, nil},
		"as many, with the first byte of it": {bridged(), at(0, 4096), api.OK, []int{4096}},
		"one less, without the first bytes":  {bridged(), at(1, 4101), api.OK, []int{4096}},
		"the last two bytes of it":           {bridged(), at(4100, 4102), api.OK, []int{1}},
	} {
		got, e := checkSplit(t, c.p, c.l)
		var ops []int
		for _, p := range got {
			ops = append(ops, len(p.Ops))
		}
		if e != c.want || !slices.Equal(ops, c.ops) {
			t.Errorf("%s: %v operations, error %d, want %v, error %d", what, ops, e, c.ops, c.want)
		}
	}
}

// P12.1 (L2): no sector has too many operations, as an operation has at least one byte.
func TestMostOfSectors(t *testing.T) {
	for _, p := range []api.Patch{of(1, 4096, alternating(4096)...), of(0, 65530, sample.Runs(6553)), bridged()} {
		for _, size := range []int{1, 9, 1000, 4095, 4096} {
			if got, e := checkSectors(t, p, size); e != api.OK || len(got) != (p.Out+size-1)/size {
				t.Errorf("%d parts of %d bytes, error %d", len(got), size, e)
			}
		}
	}
	if got := sample.Must(split.Sectors(of(1, 4096, alternating(4096)...), 4096)); len(got[0].Ops) != 4096 {
		t.Errorf("the sector has %d operations, want 4096", len(got[0].Ops))
	}
}

// P12.1 (L3), P1: the most operations of a joined patch, and one more.
func TestTooManyJoined(t *testing.T) {
	half, more, all := of(1, 2048, alternating(2048)...), of(1, 2049, alternating(2049)...), of(1, 4096, alternating(4096)...)
	whole := bridged()
	first, last := of(7, 4101, append(alternating(4095), diff(0, 1, 0, 0, 0, 0, 0))...), of(7, 1, diff(6, 1))
	runs := of(0, 32768, lit(sample.Bytes(32768, func(i int) int { return i / 10 % 2 })...))
	for what, c := range map[string]struct {
		l    []api.Patch
		want api.Errno
		ops  int
	}{
		"as many as there may be, of one":      {list(all), api.OK, 4096},
		"of two":                               {list(half, half), api.OK, 4096},
		"one more":                             {list(half, more), api.ErrBig, 0},
		"one more, then nothing":               {list(half, more, of(1, 0)), api.ErrBig, 0},
		"the last one goes on":                 {list(all, of(1, 1, lit(5))), api.OK, 4096},
		"the last one does not":                {list(all, of(1, 1, copyOf(0, 1))), api.ErrBig, 0},
		"two that go on in each other":         {list(more, more), api.ErrBig, 0},
		"one whose form has too many":          {list(of(0, 40970, sample.Runs(4097))), api.ErrBig, 0},
		"two that have few enough, each alone": {list(runs, runs), api.ErrBig, 0},
		"all in one":                           {list(whole), api.OK, 4096},
		"without the last byte":                {list(first), api.ErrBig, 0},
		"the last byte, as another patch":      {list(first, last), api.OK, 4096},
		"nothing between":                      {list(first, of(7, 0), last), api.OK, 4096},
		"another byte between":                 {list(first, of(7, 1, lit(0)), last), api.ErrBig, 0},
		"too many, of other inputs":            {list(half, more, of(2, 0)), api.ErrLength, 0},
		"too many of lifted code":              {list(lifted(half), lifted(more)), api.ErrBig, 0},
		"too many, and not all are lifted":     {list(half, lifted(more)), api.ErrKind, 0},
		"too many, and one that is wrong":      {list(half, more, of(1, 1)), api.ErrOp, 0},
		"too many operations, and all bytes":   {list(of(0, 32768, run(1, 32768)), runs, of(0, 1, lit(1))), api.ErrLength, 0},
	} {
		got, e := checkJoin(t, c.l)
		if e != c.want || len(got.Ops) != c.ops {
			t.Errorf("%s: %d operations, error %d, want %d, error %d", what, len(got.Ops), e, c.ops, c.want)
		}
	}
}

// L4, P2: the results are memory of their own, and so are the data of each operation.
func TestNothingIsModified(t *testing.T) {
	p := of(20, 24, lit(1, 2), diff(0, 1, 0, 0), copyOf(3, 10), diff(13, 1, 2), lit(4, 5), run(5, 3), lit(6, 7))
	q := of(20, 6, diff(3, 1, 2), lit(1, 2), diff(3, 4, 1))
	sections, patches := at(0, 4, 5, 12, 12, 24), list(p, q, p, of(20, 0), q)
	beforeSections := slices.Clone(sections)
	var before []api.Patch
	for _, p := range patches {
		before = append(before, sample.Clone(p))
	}
	for what, f := range map[string]func() []api.Patch{
		"Split":         func() []api.Patch { return sample.Must(split.Split(p, sections)) },
		"Sectors":       func() []api.Patch { return sample.Must(split.Sectors(p, 5)) },
		"all in one":    func() []api.Patch { return sample.Must(split.Sectors(p, 24)) },
		"sectors of 1":  func() []api.Patch { return sample.Must(split.Sectors(p, 1)) },
		"Join":          func() []api.Patch { return list(sample.Must(split.Join(patches))) },
		"Join of one":   func() []api.Patch { return list(sample.Must(split.Join(patches[1:2]))) },
		"no sections":   func() []api.Patch { return sample.Must(split.Split(p, nil)) },
		"joined forms":  func() []api.Patch { return list(sample.Must(split.Join(sample.Must(split.Sectors(p, 5))))) },
		"one form only": func() []api.Patch { return list(sample.Must(split.Join(sample.Must(split.Sectors(p, 24))))) },
	} {
		if !sample.OwnMemory(f) {
			t.Errorf("%s: the memory is shared", what)
		}
		if !sameAll(patches, before) || !slices.Equal(sections, beforeSections) {
			t.Fatalf("%s: the arguments have changed to %v and %v", what, patches, sections)
		}
	}
}
