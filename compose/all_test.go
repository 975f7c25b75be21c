package compose_test

import (
	"bytes"
	"math/rand/v2"
	"slices"
	"testing"

	"inlay/api"
	"inlay/compose"
	"inlay/normal"
	"inlay/patch"
	"inlay/sample"
)

// P9.1 (I3): the form of one patch, and what many of them do.
func TestAll(t *testing.T) {
	turn := of(5, 5, copyOf(1, 4), copyOf(0, 1))
	add := of(3, 3, diff(0, 1, 1, 1))
	grow := func(n int) api.Patch { return of(n, n+1, lit(byte(n)), copyOf(0, n)) }
	for what, c := range map[string]struct {
		l    []api.Patch
		want api.Patch
	}{
		"one":                    {[]api.Patch{turn}, turn},
		"one that has cuts":      {[]api.Patch{of(4, 4, copyOf(0, 1), copyOf(1, 3))}, of(4, 4, copyOf(0, 4))},
		"a lifted one":           {[]api.Patch{lifted(of(0, 2, lit(1, 1)))}, lifted(of(0, 2, run(1, 2)))},
		"one of nothing":         {[]api.Patch{{}}, api.Patch{}},
		"four turns":             {slices.Repeat([]api.Patch{turn}, 4), of(5, 5, copyOf(4, 1), copyOf(0, 4))},
		"five turns":             {slices.Repeat([]api.Patch{turn}, 5), of(5, 5, copyOf(0, 5))},
		"all bytes, added up":    {slices.Repeat([]api.Patch{add}, 256), of(3, 3, copyOf(0, 3))},
		"all but one of them":    {slices.Repeat([]api.Patch{add}, 255), of(3, 3, diff(0, 255, 255, 255))},
		"one byte more each":     {[]api.Patch{grow(2), grow(3), grow(4), grow(5)}, of(2, 6, lit(5, 4, 3, 2), copyOf(0, 2))},
		"nothing between others": {[]api.Patch{of(4, 3, copyOf(0, 3)), of(3, 0), of(0, 3, run(7, 3))}, of(4, 3, run(7, 3))},
		"lifted ones":            {[]api.Patch{lifted(turn), lifted(turn)}, lifted(of(5, 5, copyOf(2, 3), copyOf(0, 2)))},
	} {
		if got := mustAll(t, c.l...); !sample.Same(got, c.want) {
			t.Errorf("%s: %v, want %v", what, got, c.want)
		}
		checkAll(t, c.l)
	}
}

// P9.1 (I3), P9.2: random lists, and what the patches make of an image.
func TestAllOfLists(t *testing.T) {
	for _, n := range []int{1, 3, 4} {
		eachList(n, func(r *rand.Rand, l []api.Patch) {
			all, e := checkAll(t, l)
			if e != api.OK {
				return
			}
			b := sample.Bytes(all.In, func(int) int { return r.IntN(256) })
			all.Lifted = false
			got := sample.Must(patch.Apply(b, all))
			for _, p := range l {
				p.Lifted = false
				b = sample.Must(patch.Apply(b, p))
			}
			if !bytes.Equal(got, b) {
				t.Fatalf("%v: %v, which makes %v, want %v", l, all, got, b)
			}
		})
	}
}

// P9.6: each list is cut at all places. P9.3: the parts may be cut again.
func TestListsOfLists(t *testing.T) {
	var grouped func(r *rand.Rand, l []api.Patch) (api.Patch, api.Errno)
	grouped = func(r *rand.Rand, l []api.Patch) (api.Patch, api.Errno) {
		if len(l) == 1 {
			return normal.Form(l[0])
		}
		at := 1 + r.IntN(len(l)-1)
		p, e := grouped(r, l[:at])
		if e != api.OK {
			return api.Patch{}, e
		}
		q, e := grouped(r, l[at:])
		if e != api.OK {
			return api.Patch{}, e
		}
		return compose.Compose(p, q)
	}
	eachList(5, func(r *rand.Rand, l []api.Patch) {
		want, e := compose.All(l)
		if e != api.OK {
			return // too many operations
		}
		for at := 1; at < len(l); at++ {
			p, e := compose.All(l[:at])
			q, f := compose.All(l[at:])
			if e != api.OK || f == api.ErrBig {
				continue
			}
			if got := mustCompose(t, p, q); f != api.OK || !sample.Same(got, want) {
				t.Fatalf("%v, cut at %d: %v, error %d, want %v", l, at, got, f, want)
			}
		}
		if got, e := grouped(r, l); e != api.ErrBig && (e != api.OK || !sample.Same(got, want)) {
			t.Fatalf("%v, grouped: %v, error %d, want %v", l, got, e, want)
		}
	})
}

// P9.1 (I3), P9.7, P1: the first error of the patches from the first one on.
func TestErrorsOfAll(t *testing.T) {
	fits, short, code := of(3, 3, copyOf(0, 3)), of(2, 3, run(1, 3)), lifted(of(3, 3, copyOf(0, 3)))
	wrong := of(3, 3, copyOf(1, 3))
	big, few := manyRuns(4097), of(40970, 1, copyOf(0, 1))
	for what, c := range map[string]struct {
		l    []api.Patch
		want api.Errno
	}{
		"no patches":                             {nil, api.ErrArg},
		"an empty list":                          {[]api.Patch{}, api.ErrArg},
		"what fits":                              {[]api.Patch{fits, fits, fits}, api.OK},
		"a wrong one alone":                      {[]api.Patch{wrong}, api.ErrOp},
		"a wrong one first":                      {[]api.Patch{wrong, fits, fits}, api.ErrOp},
		"a wrong one, then one that is too long": {[]api.Patch{wrong, code, short}, api.ErrOp},
		"a wrong one in the middle":              {[]api.Patch{fits, wrong, fits}, api.ErrOp},
		"a wrong one at the end":                 {[]api.Patch{fits, fits, wrong}, api.ErrOp},
		"another kind at the end":                {[]api.Patch{fits, fits, code}, api.ErrKind},
		"another kind at the start":              {[]api.Patch{code, fits, fits}, api.ErrKind},
		"another length at the end":              {[]api.Patch{fits, fits, short}, api.ErrLength},
		"another length, then another kind":      {[]api.Patch{fits, short, code}, api.ErrLength},
		"another kind, then another length":      {[]api.Patch{fits, code, short}, api.ErrKind},
		"another length, then a wrong one":       {[]api.Patch{fits, short, wrong}, api.ErrLength},
		"another kind, then a wrong one":         {[]api.Patch{fits, code, wrong}, api.ErrKind},
		"another kind, and back":                 {[]api.Patch{fits, code, fits}, api.ErrKind},
		"another length, and back":               {[]api.Patch{fits, short, fits}, api.ErrLength},
		"too many operations alone":              {[]api.Patch{big}, api.ErrBig},
		"too many, then few":                     {[]api.Patch{big, few}, api.ErrBig},
		"too many, then a wrong one":             {[]api.Patch{big, wrong}, api.ErrBig},
		"too many at the end":                    {[]api.Patch{of(3, 0), big}, api.ErrBig},
		"as many as there may be":                {[]api.Patch{of(3, 0), manyRuns(4096)}, api.OK},
	} {
		if got, e := checkAll(t, c.l); e != c.want || e != api.OK && !sample.Same(got, api.Patch{}) {
			t.Errorf("%s: %v, error %d, want %d", what, got, e, c.want)
		}
	}
	if got := mustCompose(t, big, few); !sample.Same(got, of(0, 1, lit(0))) { // Compose does not need the form of the first one
		t.Errorf("too many, then few: %v", got)
	}
}

// P9.1 (I3): patches whose results are few operations, but not what comes between.
func TestTooManyBetween(t *testing.T) {
	n := 65536
	p, cut, few := turned(4096), of(n, n, copyOf(8, n-8), copyOf(0, 8)), of(n, 1, copyOf(9, 1))
	if got, e := checkAll(t, []api.Patch{p, cut, few}); e != api.ErrBig || !sample.Same(got, api.Patch{}) {
		t.Errorf("%v, error %d, want ErrBig", got, e)
	}
	if got := mustCompose(t, p, mustAll(t, cut, few)); got.In != n || len(got.Ops) != 1 {
		t.Errorf("in the other grouping: %v", got)
	}
}

// I4, P2: the list too.
func TestAllModifiesNothing(t *testing.T) {
	l := []api.Patch{of(5, 5, diff(0, 1, 1, 1, 1, 1)), of(5, 6, copyOf(0, 5), lit(3)), of(6, 6, diff(0, 0, 0, 0, 0, 0, 9))}
	var before []api.Patch
	for _, p := range l {
		before = append(before, sample.Clone(p))
	}
	want := of(5, 6, diff(0, 1, 1, 1, 1, 1), lit(12))
	for range 2 {
		got := mustAll(t, l...)
		if !sample.Same(got, want) || !slices.EqualFunc(l, before, sample.Same) {
			t.Fatalf("%v: %v, want %v", l, got, want)
		}
		for _, o := range got.Ops {
			clear(o.Data[:cap(o.Data)])
		}
		clear(got.Ops)
	}
}
