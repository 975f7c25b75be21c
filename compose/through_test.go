package compose_test

import (
	"bytes"
	"math/rand/v2"
	"slices"
	"testing"

	"inlay/api"
	"inlay/compose"
	"inlay/patch"
	"inlay/sample"
)

// old returns the symbol of the byte of the input at a place, plus b.
func old(at int, b byte) api.Symbol { return api.Symbol{Old: true, At: at, B: b} }

// P9.1 (I1): symbols that are right, and others, which are taken as they are.
func TestThrough(t *testing.T) {
	a := []api.Symbol{old(5, 3), {B: 7}, old(9, 0), {At: 4, B: 255}, old(-1, 1), old(5, 3)}
	for what, c := range map[string]struct {
		b, want []api.Symbol
		e       api.Errno
	}{
		"nothing":                             {nil, nil, api.OK},
		"everything":                          {[]api.Symbol{old(0, 0), old(1, 0), old(2, 0), old(3, 0), old(4, 0), old(5, 0)}, a, api.OK},
		"in another order, and again":         {[]api.Symbol{old(2, 0), old(0, 0), old(2, 0)}, []api.Symbol{old(9, 0), old(5, 3), old(9, 0)}, api.OK},
		"bytes added to places":               {[]api.Symbol{old(0, 1), old(0, 253), old(0, 254), old(2, 255)}, []api.Symbol{old(5, 4), old(5, 0), old(5, 1), old(9, 255)}, api.OK},
		"bytes added to bytes":                {[]api.Symbol{old(1, 1), old(1, 248), old(1, 249), old(1, 250)}, []api.Symbol{{B: 8}, {B: 255}, {B: 0}, {B: 1}}, api.OK},
		"bytes":                               {[]api.Symbol{{B: 0}, {B: 5}, {B: 255}}, []api.Symbol{{B: 0}, {B: 5}, {B: 255}}, api.OK},
		"bytes with places of elements":       {[]api.Symbol{{At: 1, B: 5}}, []api.Symbol{{B: 5}}, api.OK},
		"bytes with other places":             {[]api.Symbol{{At: 6, B: 5}, {At: -1, B: 6}, {At: 1 << 62}, {At: -1 << 63}}, []api.Symbol{{B: 5}, {B: 6}, {}, {}}, api.OK},
		"a byte with a place, through a":      {[]api.Symbol{old(3, 0), old(3, 1)}, []api.Symbol{{At: 4, B: 255}, {At: 4}}, api.OK},
		"a place before all inputs":           {[]api.Symbol{old(4, 255)}, []api.Symbol{old(-1, 0)}, api.OK},
		"the index after the last one":        {[]api.Symbol{old(6, 0)}, nil, api.ErrLength},
		"an index before the first one":       {[]api.Symbol{old(-1, 0)}, nil, api.ErrLength},
		"indices far away":                    {[]api.Symbol{old(1<<62, 0)}, nil, api.ErrLength},
		"indices far before":                  {[]api.Symbol{old(-1<<63, 0)}, nil, api.ErrLength},
		"an index that is wrong at the end":   {[]api.Symbol{old(0, 0), {B: 1}, old(5, 0), old(6, 1)}, nil, api.ErrLength},
		"an index that is wrong at the start": {[]api.Symbol{old(-1, 0), old(0, 0), {B: 1}}, nil, api.ErrLength},
	} {
		got, e := compose.Through(a, c.b)
		if e != c.e || !slices.Equal(got, c.want) {
			t.Errorf("%s: %v, error %d, want %v, error %d", what, got, e, c.want, c.e)
		}
	}
	if got, e := compose.Through(nil, []api.Symbol{old(0, 0)}); e != api.ErrLength || len(got) > 0 {
		t.Errorf("through nothing: %v, error %d", got, e)
	}
	if got, e := compose.Through(nil, []api.Symbol{{B: 3}}); e != api.OK || !slices.Equal(got, []api.Symbol{{B: 3}}) {
		t.Errorf("a byte through nothing: %v, error %d", got, e)
	}
}

// P9.1 (I1): what goes through is, for an input, what it is for the bytes that the others are.
func TestThroughMakes(t *testing.T) {
	r := rand.New(rand.NewPCG(9, 1))
	refused := 0
	for range 20000 {
		in, mid, n := r.IntN(30), r.IntN(30), r.IntN(40)
		a, b := sample.Symbols(r.IntN, mid, in), sample.Symbols(r.IntN, n, max(0, mid+r.IntN(4)-2))
		l, e := compose.Through(a, b)
		if !goesThrough(a, b) {
			refused++
			if e != api.ErrLength || len(l) > 0 {
				t.Fatalf("%v through %v: %v, error %d, want ErrLength", b, a, l, e)
			}
			continue
		}
		input := sample.Bytes(in, func(i int) int { return 37*i + 11 })
		want := sample.Must(patch.Run(sample.Must(patch.Run(input, a)), b))
		if e != api.OK || len(l) != n || !bytes.Equal(sample.Must(patch.Run(input, l)), want) {
			t.Fatalf("%v through %v: %v, error %d", b, a, l, e)
		}
	}
	if refused < 1000 {
		t.Errorf("only %d lists do not go through others", refused)
	}
}

// P9.1 (I1), P1: more symbols than an image has bytes.
func TestThroughMany(t *testing.T) {
	n := 200000
	var a, b, want []api.Symbol
	for i := range n {
		a = append(a, old(2*i, byte(i)))
		b = append(b, old(n-1-i, 3))
		want = append(want, old(2*(n-1-i), byte(n-1-i)+3))
	}
	if got, e := compose.Through(a, b); e != api.OK || !slices.Equal(got, want) {
		t.Errorf("error %d, or other symbols", e)
	}
}

// I4, P2: the result is memory of its own.
func TestThroughModifiesNothing(t *testing.T) {
	a := []api.Symbol{old(5, 3), {B: 7}}
	for _, b := range [][]api.Symbol{{old(0, 0), old(1, 0)}, {old(1, 9), {At: 3, B: 4}}, {{B: 5}, {B: 6}}} {
		beforeA, beforeB := slices.Clone(a), slices.Clone(b)
		got, _ := compose.Through(a, b)
		want := slices.Clone(got)
		clear(got[:cap(got)])
		again, e := compose.Through(a, b)
		if !slices.Equal(a, beforeA) || !slices.Equal(b, beforeB) || e != api.OK || !slices.Equal(again, want) {
			t.Errorf("the arguments have changed to %v and %v, or the second result %v is another one than %v", a, b, again, want)
		}
	}
}
