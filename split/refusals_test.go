package split_test

import (
	"math"
	"slices"
	"testing"

	"inlay/api"
	"inlay/patch"
	"inlay/sample"
	"inlay/split"
)

// named returns a section from 0 up to 1 with this name.
func named(name string) []api.Section { return []api.Section{{Name: name, To: 1}} }

// P12.6, P12.1 (L1): sections that are none of 12 bytes.
func TestWrongSections(t *testing.T) {
	p := of(12, 12, copyOf(0, 12))
	for what, l := range map[string][]api.Section{
		"one that ends after the output":  at(4, 13),
		"one behind the output":           at(12, 13),
		"one that is empty":               at(4, 4),
		"one that is empty, at the end":   at(12, 12),
		"one that ends before its begin":  at(5, 4),
		"one that begins before 0":        at(-1, 4),
		"two that overlap":                at(0, 4, 3, 8),
		"two in the wrong order":          at(4, 8, 0, 4),
		"one in another one":              at(0, 8, 2, 4),
		"the second one is empty":         at(0, 4, 4, 4),
		"the second one is too long":      at(0, 4, 4, 13),
		"two of one name":                 slices.Concat(at(0, 4), at(4, 8)),
		"one without a name":              named(""),
		"one whose name is too long":      named("abcdefghijklm"),
		"one whose name has a space":      named("a b"),
		"code that begins between words":  code(at(2, 8)),
		"code that ends between words":    code(at(0, 6)),
		"code behind a section, the same": slices.Concat(at(0, 1), code([]api.Section{{Name: "z", From: 1, To: 4}})),
		"more than there may be":          at(0, 1, 1, 2, 2, 3, 3, 4, 4, 5, 5, 6, 6, 7, 7, 8, 8, 9),
		"numbers far below":               at(math.MinInt, math.MinInt+4),
		"numbers far above":               at(0, math.MaxInt),
		"numbers that wrap":               at(math.MaxInt, math.MinInt),
	} {
		for _, c := range []struct {
			p    api.Patch
			want api.Errno
		}{{p, api.ErrSection}, {lifted(p), api.ErrKind}, {of(12, 12, copyOf(0, 11)), api.ErrOp}, {lifted(of(12, 12, copyOf(0, 11))), api.ErrOp}} {
			if got, e := checkSplit(t, c.p, l); e != c.want || len(got) != 0 {
				t.Errorf("%s: %v, error %d, want %d", what, got, e, c.want)
			}
		}
	}
	// Where a section may be depends on the output, and not on the input.
	for out, want := range map[int]api.Errno{0: api.ErrSection, 11: api.ErrSection, 12: api.OK, 13: api.OK, 65536: api.OK} {
		for _, in := range []int{0, 11, 65536} {
			q := of(in, out)
			if out > 0 {
				q.Ops = []api.Op{run(1, out)}
			}
			if _, e := checkSplit(t, q, at(0, 6, 6, 12)); e != want {
				t.Errorf("an output of %d bytes: error %d, want %d", out, e, want)
			}
		}
	}
}

// P12.6, P12.1 (L2): sizes that no sector has.
func TestWrongSizes(t *testing.T) {
	for _, size := range []int{0, -1, -2, 4097, 65536, math.MinInt, math.MaxInt} {
		for _, c := range []struct {
			p    api.Patch
			want api.Errno
		}{
			{chapterP, api.ErrArg}, {of(3, 0), api.ErrArg}, {api.Patch{}, api.ErrArg}, {patch.Whole(65536), api.ErrArg},
			{lifted(chapterP), api.ErrKind}, {lifted(of(3, 0)), api.ErrKind}, {of(3, 2), api.ErrOp}, {lifted(of(3, 2)), api.ErrOp},
		} {
			if got, e := checkSectors(t, c.p, size); e != c.want || len(got) != 0 {
				t.Errorf("sectors of %d bytes: %v, error %d, want %d", size, got, e, c.want)
			}
		}
	}
}

// P12.6, P12.1 (L1, L2, L3), P1: patches that are not right, or of lifted code, alone and with others.
func TestWrongPatches(t *testing.T) {
	for _, p := range []api.Patch{chapterP, of(3, 0), patch.Whole(65536)} {
		if got, e := split.Split(lifted(p), nil); e != api.ErrKind || len(got) != 0 {
			t.Errorf("Split of %v: %v, error %d, want ErrKind", lifted(p), got, e)
		}
		if got, e := split.Sectors(lifted(p), 4096); e != api.ErrKind || len(got) != 0 {
			t.Errorf("Sectors of %v: %v, error %d, want ErrKind", lifted(p), got, e)
		}
	}
	for _, w := range sample.WrongPatches() {
		for _, w := range list(w, lifted(w)) {
			for _, l := range [][]api.Section{nil, at(0, 1), at(0, 0), at(0, 3)} {
				if got, e := split.Split(w, l); e != api.ErrOp || len(got) != 0 {
					t.Errorf("Split of %v: %v, error %d, want ErrOp", w, got, e)
				}
			}
			for _, size := range []int{0, 1, 4096, 4097} {
				if got, e := split.Sectors(w, size); e != api.ErrOp || len(got) != 0 {
					t.Errorf("Sectors of %v: %v, error %d, want ErrOp", w, got, e)
				}
			}
			long := patch.Whole(65536)
			for _, l := range [][]api.Patch{{w}, {w, w}, {w, chapterP}, {chapterP, w}, {chapterP, w, chapterP}, {lifted(chapterP), w}, {long, long, w}, {long, lifted(chapterP), w}} {
				if got, e := checkJoin(t, l); e != api.ErrOp || !sample.Same(got, api.Patch{}) {
					t.Errorf("Join of %v: %v, error %d, want ErrOp", l, got, e)
				}
			}
		}
	}
}

// P12.6, P12.1 (L3), P1: patches that cannot be joined, in the order of errors.
func TestNotJoined(t *testing.T) {
	n := 65536
	long, byteOf, none := of(4, n, run(1, n)), of(4, 1, lit(1)), of(4, 0)
	other, otherLong := of(3, 1, lit(1)), of(3, n, run(1, n))
	many := slices.Repeat(list(long), n) // together they have 2^32 bytes
	with := func(p ...api.Patch) []api.Patch { return slices.Concat(many, p) }
	for what, c := range map[string]struct {
		l    []api.Patch
		want api.Errno
	}{
		"no patches":                               {nil, api.ErrArg},
		"an empty list":                            {list(), api.ErrArg},
		"other inputs":                             {list(byteOf, other), api.ErrLength},
		"other inputs, at first":                   {list(other, byteOf, byteOf), api.ErrLength},
		"other inputs, in the middle":              {list(byteOf, other, byteOf), api.ErrLength},
		"other inputs, at the end":                 {list(byteOf, byteOf, other), api.ErrLength},
		"other inputs, without output":             {list(none, of(5, 0)), api.ErrLength},
		"no input, and some":                       {list(of(0, 1, lit(1)), byteOf), api.ErrLength},
		"an output that is the input of the other": {list(of(3, 4, run(1, 4)), of(4, 3, run(1, 3))), api.ErrLength},
		"a lifted one":                             {list(byteOf, lifted(byteOf)), api.ErrKind},
		"a lifted one at first":                    {list(lifted(byteOf), byteOf, byteOf), api.ErrKind},
		"a lifted one in the middle":               {list(byteOf, lifted(byteOf), byteOf), api.ErrKind},
		"one that is not lifted, at the end":       {list(lifted(byteOf), lifted(byteOf), byteOf), api.ErrKind},
		"a lifted one without output":              {list(none, lifted(none)), api.ErrKind},
		"a lifted one for other inputs":            {list(byteOf, lifted(other)), api.ErrKind},
		"other inputs, then a lifted one":          {list(byteOf, other, lifted(byteOf)), api.ErrKind},
		"lifted ones for other inputs":             {list(lifted(byteOf), lifted(other)), api.ErrLength},
		"one byte too many":                        {list(long, byteOf), api.ErrLength},
		"one byte too many, at first":              {list(byteOf, long), api.ErrLength},
		"one byte too many, then nothing":          {list(byteOf, long, none), api.ErrLength},
		"one byte too many, of many":               {slices.Repeat(list(byteOf), n+1), api.ErrLength},
		"too many bytes, and other inputs":         {list(long, otherLong), api.ErrLength},
		"too many bytes, and a lifted one":         {list(long, byteOf, lifted(byteOf)), api.ErrKind},
		"too many bytes of lifted code":            {list(lifted(long), lifted(byteOf)), api.ErrLength},
		"far too many bytes":                       {many, api.ErrLength},
		"far too many, and a lifted one":           {with(lifted(byteOf)), api.ErrKind},
		"far too many, and a wrong one":            {with(lifted(byteOf), of(4, 1)), api.ErrOp},
		"a wrong one for other inputs":             {list(byteOf, of(3, 1)), api.ErrOp},
		"other inputs, a lifted, a wrong one":      {list(byteOf, other, lifted(byteOf), of(4, 1)), api.ErrOp},
	} {
		if got, e := checkJoin(t, c.l); e != c.want || !sample.Same(got, api.Patch{}) {
			t.Errorf("%s: %v, error %d, want %d", what, got, e, c.want)
		}
	}
}
