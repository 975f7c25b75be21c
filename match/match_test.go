package match_test

import (
	"bytes"
	"fmt"
	"math/rand/v2"
	"slices"
	"testing"

	"inlay/api"
	"inlay/match"
	"inlay/patch"
	"inlay/sample"
)

// P7.1 (G1), P7.2: the examples of the chapter, and others that are worked out by hand.
func TestPlain(t *testing.T) {
	for _, c := range []struct {
		old, new string
		want     int
	}{
		{"ab", "ab", 4},
		{"any", "any", 4},
		{"abcdefgh", "efghabcd", 8},
		{"abcdefgh", "abcdXefgh", 11},
		{"abc", "\x00\x00\x00\x00\x00\x00\x00\x00\x00\x00\x00\x00\x00\x00\x00\x00\x00\x00\x00\x00", 4},
		{"anything", "", 0},
		{"", "", 0},
		{"", "a", 3},
		{"a", "a", 3},
		{"", "ab", 4},
		{"", "abc", 5},
		{"", "aa", 4},
		{"", "aaa", 4},
		{"abc", "abc", 4},
		{"abc", "xxxxxabc", 8},
		{"abc", "abcxxxxx", 8},
		{"abcdef", "abcdefyabcdef", 11},
		{"abcdef", "fedcba", 8},
		{"abcdefgh", "bcdefg", 4},
		{"\x01\x02\x03\x04\x05\x06\x07\x08", "\x02\x03\x04\x05\x06\x07\x08\x09", 7},
		{"\x01\x03\x06\x0a\x0f", "\x02\x04\x07\x0b\x10", 7},
		{"aaaaaaaa", "aaaaaaaaaaaaaaaa", 4},
		{"aaaabbbb", "aaaaaaaabbbbbbbb", 8},
		{"xaaaay", "aaaaaaaaaaay", 7},
		{"12345abcde67890", "12345678900000", 12},
	} {
		if got := costOfPlain(t, []byte(c.old), []byte(c.new)); got != c.want {
			t.Errorf("%q to %q: cost %d, want %d", c.old, c.new, got, c.want)
		}
	}
}

// P7.1 (G1), P7.2, P7.3: all pairs of short texts.
func TestPlainOfShortTexts(t *testing.T) {
	check := func(oldest, newest int, of string) {
		sample.EachText(oldest, of, func(old []byte) {
			sample.EachText(newest, of, func(new []byte) {
				if got, want := costOfPlain(t, old, new), leastOf(old, new); got != want {
					t.Fatalf("%q to %q: cost %d, want %d", old, new, got, want)
				}
			})
		})
	}
	check(5, 9, "ab")
	check(4, 6, "\x00a\xff")
	check(0, 13, "ab")
}

// P7.1 (G1), P7.2, P7.3: an image of others, and of itself.
func TestPlainOfOtherTexts(t *testing.T) {
	for _, n := range []int{1, 2, 3, 17, 64, 97} {
		for what, old := range imagesOf(n) {
			for where, new := range imagesOf(120) {
				if got, want := costOfPlain(t, old, new), leastOf(old, new); got != want {
					t.Fatalf("%s, %d bytes, to %s: cost %d, want %d", what, n, where, got, want)
				}
			}
			want := 4
			if n == 1 {
				want = 3
			}
			if got := costOfPlain(t, old, old); got != want {
				t.Fatalf("%s, %d bytes, to itself: cost %d, want %d", what, n, got, want)
			}
		}
	}
}

// P7.2, P7.3: of parts of the old image and other bytes.
func TestPlainOfParts(t *testing.T) {
	r := rand.New(rand.NewPCG(7, 2))
	for n := 1; n < 90; n++ {
		for _, of := range []string{"ab", "abc", "\x00\x01\x7f\x80\xff", "abcdefghijklmnopqrstuvwxyz"} {
			old := sample.Text(r.IntN, n, of)
			new, _ := partsOf(r, old, 1+r.IntN(7), of)
			if got, want := costOfPlain(t, old, new), leastOf(old, new); got != want {
				t.Fatalf("%q to %q: cost %d, want %d", old, new, got, want)
			}
		}
	}
}

// P7.3: no patch that makes the same costs less.
func TestNoPatchCostsLess(t *testing.T) {
	r := rand.New(rand.NewPCG(7, 3))
	for in := range 50 {
		for out := range 50 {
			p := sample.Patch(r.IntN, in, out)
			old := sample.Text(r.IntN, in, "\x00\x01ab\xff")
			new, e := patch.Apply(old, p)
			if e != api.OK {
				t.Fatalf("Apply of %v: error %d", p, e)
			}
			if got := costOfPlain(t, old, new); got > patch.Cost(p) {
				t.Fatalf("%q to %q: cost %d, but that of %v is %d", old, new, got, p, patch.Cost(p))
			}
		}
	}
}

// P7.4: images of parts of others, up to the longest ones.
func TestBlocks(t *testing.T) {
	r := rand.New(rand.NewPCG(7, 4))
	for _, n := range []int{1, 10, 300, api.MaxImage} {
		for what, old := range imagesOf(n) {
			for _, parts := range []int{10, 1300} {
				new, most := partsOf(r, old, parts, "\x00\x01ab\xff")
				if got := costOfPlain(t, old, new); got > most {
					t.Fatalf("%s: %d parts of %d bytes cost %d, at most %d are right", what, parts, n, got, most)
				}
			}
		}
	}
}

// P7.4, P1: the longest images, turned around, and one of others.
func TestLongImages(t *testing.T) {
	images := imagesOf(api.MaxImage)
	for what, old := range images {
		for _, at := range []int{0, api.MaxImage / 3} {
			new := slices.Concat(old[at:], old[:at])
			if got := costOfPlain(t, old, new); got > 8 || at == 0 && got != 4 {
				t.Errorf("%s, turned at %d: cost %d", what, at, got)
			}
		}
		if got := costOfPlain(t, old, images["two kinds"]); got > api.MaxImage+2 {
			t.Errorf("%s to two kinds: cost %d", what, got)
		}
	}
}

// P7.1 (G1): the most bytes, and one more.
func TestLimitsOfBytes(t *testing.T) {
	longest := make([]byte, api.MaxImage)
	longer := make([]byte, api.MaxImage+1)
	for what, c := range map[string]struct {
		old, new []byte
		want     api.Errno
	}{
		"the longest images":   {longest, longest, api.OK},
		"a longer old one":     {longer, nil, api.ErrBig},
		"a longer new one":     {nil, longer, api.ErrBig},
		"the longest, longer":  {longest, longer, api.ErrBig},
		"longer, the longest":  {longer, longest, api.ErrBig},
		"both longer":          {longer, longer, api.ErrBig},
		"a word more, as code": {make([]byte, api.MaxImage+4), nil, api.ErrBig},
		"far longer":           {nil, make([]byte, 1<<20), api.ErrBig},
	} {
		p, e := match.Plain(c.old, c.new)
		q, f := match.Best(c.old, c.new)
		if e != c.want || f != c.want || e != api.OK && (!sample.Same(p, api.Patch{}) || !sample.Same(q, api.Patch{})) {
			t.Errorf("%s: errors %d, %d, want %d", what, e, f, c.want)
		}
		if e == api.OK && (check(t, c.old, c.new, p, false) != 4 || !sample.Same(p, q)) {
			t.Errorf("%s: %v, %v", what, p, q)
		}
	}
}

// runsOf returns n runs of some bytes each, of which neighbors differ.
func runsOf(n, of int) []byte {
	var b []byte
	for i := range n {
		b = append(b, bytes.Repeat([]byte{byte(i % 2)}, of)...)
	}
	return b
}

// P7.1 (G1), P7.3, P1: the most operations that a patch may have, and one more.
func TestLimitsOfOperations(t *testing.T) {
	if got := costOfPlain(t, nil, runsOf(4096, 16)); got != 4*4096 {
		t.Errorf("4096 runs: cost %d", got)
	}
	if got := costOfPlain(t, []byte("other"), runsOf(4096, 9)); got != 4*4096 {
		t.Errorf("4096 shorter runs: cost %d", got)
	}
	for _, of := range []int{5, 9, 15} {
		for _, n := range []int{4097, 4369} {
			b := runsOf(n, of)
			if got := costOfPlain(t, nil, b); got > len(b)+2 {
				t.Errorf("%d runs of %d bytes: cost %d, more than %d", n, of, got, len(b)+2)
			}
		}
	}
}

// P7.1 (G1), P7.3: of the operations of the least cost only the fewest are few enough for a patch. Here a part of a
// Lit costs as much as an operation of its own, and everything as one Lit costs more.
func TestFewestOperations(t *testing.T) {
	before := sample.Text(rand.New(rand.NewPCG(7, 5)).IntN, 1000, "ABCDEFGH")
	old := append(bytes.Clone(before), "1234567"...)
	for _, c := range []struct {
		part string
		n    int
		want int
	}{
		{".xxxxxx", 9000, 4 + 2 + 9000*7 + 1},
		{".123456", 9000, 4 + 2 + 9000*7 + 1},
		{".xxxx1234567", 2000, 4 + 2000*(2+5+4) + 3},
		{".34561234567", 2000, 4 + 2000*(2+5+4) + 3},
	} {
		new := slices.Concat(before, bytes.Repeat([]byte(c.part), c.n), []byte("."))
		if got := costOfPlain(t, old, new); got != c.want {
			t.Errorf("%s: cost %d, want %d", c.part, got, c.want)
		}
	}
}

// G4, P2: arguments stay as they are, the same call has the same result, and its data are memory of its own.
func TestNothingIsModified(t *testing.T) {
	r := rand.New(rand.NewPCG(7, 6))
	for range 100 {
		old := sample.Code(r.IntN, 1+r.IntN(60))
		new := slices.Concat(old[len(old)/8*4:], sample.Code(r.IntN, 1+r.IntN(9)), old[:len(old)/8*4])
		oldBefore, newBefore := bytes.Clone(old), bytes.Clone(new)
		for what, f := range map[string]func(old, new []byte) (api.Patch, api.Errno){"Plain": match.Plain, "Code": match.Code, "Best": match.Best} {
			p, e := f(old, new)
			before := fmt.Sprint(p, e)
			q, g := f(old, new)
			if fmt.Sprint(q, g) != before {
				t.Fatalf("%s, called twice: %v, then %v", what, p, q)
			}
			for _, o := range q.Ops {
				clear(o.Data[:cap(o.Data)])
			}
			if !bytes.Equal(old, oldBefore) || !bytes.Equal(new, newBefore) || fmt.Sprint(p, e) != before {
				t.Fatalf("%s: the arguments, or results of other calls, have changed", what)
			}
		}
	}
}
