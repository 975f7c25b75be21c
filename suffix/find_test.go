package suffix_test

import (
	"bytes"
	"math"
	"math/rand/v2"
	"slices"
	"testing"

	"inlay/api"
	"inlay/sample"
	"inlay/suffix"
)

// longest calls Longest with the right order.
func longest(b, s []byte) api.Found {
	return suffix.Longest(b, suffix.Order(b), s)
}

// P4.1 (D2), P4.3
func TestLongest(t *testing.T) {
	for _, c := range []struct {
		b, s    string
		at, len int
	}{
		{"abab", "abc", 0, 2},
		{"abab", "cab", 0, 0},
		{"abab", "b", 1, 1},
		{"abab", "ba", 1, 2},
		{"abab", "abab", 0, 4},
		{"abab", "ababa", 0, 4},
		{"abab", "baba", 1, 3},
		{"abab", "", 0, 0},
		{"", "a", 0, 0},
		{"", "", 0, 0},
		{"bbb", "a", 0, 0},
		{"bbb", "c", 0, 0},
		{"bbb", "bbbb", 0, 3},
		{"bbb", "bba", 0, 2},
		{"bbb", "bbc", 0, 2},
		{"xyzxy", "xyx", 0, 2},
		{"xyzxyx", "xyx", 3, 3},
		{"cbaab", "aabb", 2, 3},
		{"cbaab", "bc", 1, 1},
		{"\x00\x00", "\x00\x01", 0, 1},
		{"\x01\x00", "\x00\x00", 1, 1},
		{"\x7f\x80\x81", "\x80\x82", 1, 1},
		{"a\xff", "\xff\xff", 1, 1},
	} {
		if got := longest([]byte(c.b), []byte(c.s)); got != (api.Found{At: c.at, Len: c.len}) {
			t.Errorf("Longest(%q, %q) = %v, want %d, %d", c.b, c.s, got, c.at, c.len)
		}
	}
}

// P4.1 (D2), P4.3: all short texts in all short texts.
func TestLongestOfShortTexts(t *testing.T) {
	check := func(n int, of string) {
		sample.EachText(n, of, func(b []byte) {
			order := orderOf(b)
			sample.EachText(n-1, of, func(s []byte) {
				if got := suffix.Longest(b, order, s); got != longestOf(b, s) {
					t.Fatalf("Longest(%q, %q) = %v, want %v", b, s, got, longestOf(b, s))
				}
			})
		})
	}
	check(8, "ab")
	check(5, "\x00a\xff")
	check(4, "\x00\x7f\x80\xff")
}

// P4.1 (D2), P4.3: parts of texts with one byte changed, and others.
func TestLongestOfOtherTexts(t *testing.T) {
	r := rand.New(rand.NewPCG(4, 3))
	for n := 1; n < 200; n += 7 {
		for what, b := range textsOf(n) {
			order := orderOf(b)
			for range 30 {
				from := r.IntN(n)
				s := bytes.Clone(b[from : from+1+r.IntN(n-from)])
				s[r.IntN(len(s))] += byte(r.IntN(3))
				for _, s := range [][]byte{s, append(s, b[r.IntN(n)]), sample.Kinds(r.IntN, 5, 1+r.IntN(256))} {
					if got := suffix.Longest(b, order, s); got != longestOf(b, s) {
						t.Fatalf("%s: Longest(%q, %q) = %v, want %v", what, b, s, got, longestOf(b, s))
					}
				}
			}
		}
	}
}

// P4.4
func TestPartsAreFound(t *testing.T) {
	check := func(b []byte) {
		order := suffix.Order(b)
		for from := range b {
			for to := from + 1; to <= len(b); to++ {
				got := suffix.Longest(b, order, b[from:to])
				if got.Len != to-from || got.At < 0 || got.At > from || !bytes.HasPrefix(b[got.At:], b[from:to]) {
					t.Fatalf("the part %d to %d of %q is found as %v", from, to, b, got)
				}
			}
		}
	}
	sample.EachText(7, "ab", check)
	for _, b := range textsOf(90) {
		check(b)
	}
}

// P4.3, P4.4, P1: in a text as long as an image.
func TestLongestInLongTexts(t *testing.T) {
	same := bytes.Repeat([]byte{3}, api.MaxImage)
	order := suffix.Order(same)
	for _, n := range []int{1, 2, 1000, api.MaxImage - 1, api.MaxImage} {
		for _, s := range [][]byte{same[:n], append(bytes.Clone(same[:n]), 2), append(bytes.Clone(same[:n]), 4)} {
			if got := suffix.Longest(same, order, s); got != (api.Found{Len: n}) {
				t.Errorf("%d equal bytes: %v", n, got)
			}
		}
	}
	if got := suffix.Longest(same, order, append(bytes.Clone(same), same...)); got != (api.Found{Len: api.MaxImage}) {
		t.Error("more equal bytes than there are:", got)
	}
	r := rand.New(rand.NewPCG(4, 4))
	for what, b := range textsOf(api.MaxImage) {
		order := suffix.Order(b)
		for range 10 {
			from := r.IntN(len(b))
			s := b[from : from+min(1+r.IntN(3000), len(b)-from)]
			if got := suffix.Longest(b, order, s); got != (api.Found{At: bytes.Index(b, s), Len: len(s)}) {
				t.Errorf("%s: the part at %d of %d bytes: %v", what, from, len(s), got)
			}
		}
	}
}

// P4.1 (D3)
func TestCommon(t *testing.T) {
	for s, want := range map[string][]int{
		"":             nil,
		"a":            {0},
		"\x00":         {0},
		"ab":           {0, 0},
		"aa":           {0, 1},
		"abab":         {0, 2, 0, 1},
		"banana":       {0, 1, 3, 0, 0, 2},
		"abcabcab":     {0, 2, 5, 0, 1, 4, 0, 3},
		"mississippi":  {0, 1, 1, 4, 0, 0, 1, 0, 2, 1, 3},
		"\x00\x00\x00": {0, 1, 2},
		"\xff\xff\x00": {0, 0, 1},
	} {
		if got := suffix.Common([]byte(s), suffix.Order([]byte(s))); !slices.Equal(got, want) {
			t.Errorf("Common(%q) = %v, want %v", s, got, want)
		}
	}
}

// P4.1 (D3): for all short texts, and for longer ones.
func TestCommonIsWhatTheChapterSays(t *testing.T) {
	check := func(b []byte) {
		if got := suffix.Common(b, orderOf(b)); !slices.Equal(got, commonOf(b)) {
			t.Fatalf("Common(%q) = %v, want %v", b, got, commonOf(b))
		}
	}
	sample.EachText(10, "ab", check)
	sample.EachText(6, "\x00a\xff", check)
	for n := range 140 {
		for _, b := range textsOf(n) {
			check(b)
		}
	}
}

// P4.5
func TestAnyTwoSuffixes(t *testing.T) {
	check := func(b []byte) {
		order := suffix.Order(b)
		common := suffix.Common(b, order)
		for k, i := range order {
			least := math.MaxInt
			for m := k + 1; m < len(order); m++ {
				least = min(least, common[m])
				if got := inCommon(b[i:], b[order[m]:]); got != least {
					t.Fatalf("%q: the suffixes at %d and %d have %d bytes in common, Common says %d", b, i, order[m], got, least)
				}
			}
		}
	}
	sample.EachText(9, "ab", check)
	sample.EachText(5, "\x00a\xff", check)
	for _, b := range textsOf(120) {
		check(b)
	}
}

// P4.1 (D3), P1: in texts as long as images.
func TestCommonOfLongTexts(t *testing.T) {
	same := bytes.Repeat([]byte{3}, api.MaxImage)
	for k, n := range suffix.Common(same, suffix.Order(same)) {
		if n != k {
			t.Fatalf("equal bytes: %d have %d in common", k, n)
		}
	}
	for what, b := range textsOf(5000) {
		order := suffix.Order(b)
		common := suffix.Common(b, order)
		if len(common) != len(b) || common[0] != 0 {
			t.Fatalf("%s: %d numbers, %d", what, len(common), common[0])
		}
		for k := 1; k < len(order); k++ {
			if want := inCommon(b[order[k-1]:], b[order[k]:]); common[k] != want {
				t.Fatalf("%s: Common has %d at %d, want %d", what, common[k], k, want)
			}
		}
	}
}

// P1: what these return for lists that are not the order is unspecified, but they return.
func TestListsThatAreNoOrder(t *testing.T) {
	texts := []string{"", "a", "ab", "banana", "aaaaaaaa", "\xff\x00\xff"}
	lists := [][]int{
		nil, {0}, {1}, {-1}, {6}, {7}, {0, 0, 0, 0, 0, 0}, {5, 5, 5}, {0, 1, 2, 3, 4, 5}, {5, 4, 3, 2, 1, 0}, {2, 4, 0, 1, 3, 5},
		{5, 3, 1, 0, 4}, {5, 3, 1, 0, 4, 2, 2}, {5, 3, 1, 0, 4, 2, 6, 7, 8, 9}, {5, 3, -1, 0, 4, 2}, {5, 3, 1, 6, 4, 2},
		{math.MaxInt, math.MinInt}, {math.MaxInt, 0, math.MaxInt, 1, math.MinInt, 2}, {math.MinInt, 5, math.MaxInt, 4},
	}
	for _, b := range texts {
		for _, order := range lists {
			before := slices.Clone(order)
			for _, s := range texts {
				suffix.Longest([]byte(b), order, []byte(s))
			}
			suffix.Common([]byte(b), order)
			if !slices.Equal(order, before) {
				t.Errorf("the list %v has become %v", before, order)
			}
		}
	}
}
