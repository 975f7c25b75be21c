package suffix_test

import (
	"bytes"
	"math/rand/v2"
	"slices"
	"strings"
	"testing"

	"inlay/api"
	"inlay/sample"
	"inlay/suffix"
)

// P4.1 (D1), P4.2: examples that are worked out by hand.
func TestOrder(t *testing.T) {
	for s, want := range map[string][]int{
		"":                     nil,
		"\x00":                 {0},
		"\xff":                 {0},
		"ab":                   {0, 1},
		"ba":                   {1, 0},
		"aa":                   {1, 0},
		"aaaa":                 {3, 2, 1, 0},
		"abab":                 {2, 0, 3, 1},
		"abcabcab":             {6, 3, 0, 7, 4, 1, 5, 2},
		"banana":               {5, 3, 1, 0, 4, 2},
		"\x00\x00\x01":         {0, 1, 2},
		"\x01\x00\x00":         {2, 1, 0},
		"\xff\x80\x7f\x00":     {3, 2, 1, 0},
		"\x7f\x80":             {0, 1},
		"\x80\x7f":             {1, 0},
		"a\xffa\x00":           {3, 2, 0, 1},
		"\n\r\n":               {2, 0, 1},
		"\xc3\xa9\xc3":         {1, 2, 0},
		"mississippi":          {10, 7, 4, 1, 0, 9, 8, 6, 3, 5, 2},
		strings.Repeat("a", 9): {8, 7, 6, 5, 4, 3, 2, 1, 0},
	} {
		if got := suffix.Order([]byte(s)); !slices.Equal(got, want) {
			t.Errorf("Order(%q) = %v, want %v", s, got, want)
		}
	}
}

// P4.1 (D1), P4.2: for all short texts.
func TestOrderOfShortTexts(t *testing.T) {
	check := func(b []byte) {
		if got := suffix.Order(b); !slices.Equal(got, orderOf(b)) {
			t.Fatalf("Order(%q) = %v, want %v", b, got, orderOf(b))
		}
	}
	sample.EachText(12, "ab", check)
	sample.EachText(7, "\x00a\xff", check)
	sample.EachText(5, "\x00\x7f\x80\xff", check)
}

// P4.1 (D1), P4.2: each length up to some, so that beginnings are longer, as long and shorter than texts.
func TestOrderOfEachLength(t *testing.T) {
	for n := range 140 {
		for what, b := range textsOf(n) {
			if got := suffix.Order(b); !slices.Equal(got, orderOf(b)) {
				t.Fatalf("%s, %d bytes: Order(%q) = %v, want %v", what, n, b, got, orderOf(b))
			}
		}
	}
}

// checkOrder checks that l has each place of b once, and that the suffixes increase. It compares only the first
// bytes of two suffixes, and the places of the rest in l.
func checkOrder(t *testing.T, what string, b []byte, l []int) {
	t.Helper()
	if len(l) != len(b) {
		t.Fatalf("%s: %d places of %d bytes", what, len(l), len(b))
	}
	index := make([]int, len(b)+1)
	index[len(b)] = -1 // the empty rest comes first
	there := make([]bool, len(b))
	for k, i := range l {
		if i < 0 || i >= len(b) || there[i] {
			t.Fatalf("%s: the place %d is no other place", what, i)
		}
		index[i], there[i] = k, true
	}
	for k := 1; k < len(l); k++ {
		i, j := l[k-1], l[k]
		if b[i] > b[j] || b[i] == b[j] && index[i+1] > index[j+1] {
			t.Fatalf("%s: the suffix at %d comes before the one at %d", what, i, j)
		}
	}
}

// P4.2, P1: texts as long as images, and longer ones.
func TestOrderOfLongTexts(t *testing.T) {
	for _, n := range []int{1000, 4095, 4097, api.MaxImage - 1, api.MaxImage, api.MaxImage + 1} {
		for what, b := range textsOf(n) {
			checkOrder(t, what, b, suffix.Order(b))
		}
	}
	b := sample.Kinds(rand.New(rand.NewPCG(4, 2)).IntN, 1<<19, 3)
	checkOrder(t, "a longer text", b, suffix.Order(b))
}

// P4.6: a byte that is less than all others is put to the end.
func TestAByteAtTheEnd(t *testing.T) {
	check := func(b []byte) {
		if len(b) > 0 && slices.Min(b) == 0 {
			t.Fatalf("no byte is less than all of %q", b)
		}
		least := byte(0)
		if len(b) > 0 {
			least = slices.Min(b) - 1
		}
		for _, end := range []byte{0, least} {
			got := suffix.Order(append(bytes.Clone(b), end))
			if want := append([]int{len(b)}, suffix.Order(b)...); !slices.Equal(got, want) {
				t.Fatalf("Order of %q and %d: %v, want %v", b, end, got, want)
			}
		}
	}
	sample.EachText(9, "ab", check)
	sample.EachText(5, "\x01\x80\xff", check)
	for n := range 40 {
		for _, b := range textsOf(8 * n) {
			for i := range b {
				b[i] |= 1 // so that 0 is less
			}
			check(b)
		}
	}
}

// P4.7: bytes are replaced by others that are in the same order.
func TestBytesReplaced(t *testing.T) {
	r := rand.New(rand.NewPCG(4, 7))
	for n := range 60 {
		for kinds := 1; kinds <= 256; kinds *= 2 {
			b := make([]byte, n)
			for i := range b {
				b[i] = byte(r.IntN(kinds))
			}
			others := r.Perm(256)[:kinds]
			slices.Sort(others)
			replaced := make([]byte, n)
			for i, c := range b {
				replaced[i] = byte(others[c])
			}
			if got, want := suffix.Order(replaced), suffix.Order(b); !slices.Equal(got, want) {
				t.Fatalf("Order(%q) = %v, but Order(%q) = %v", replaced, got, b, want)
			}
		}
	}
}

// P2, P4.1 (D4): arguments are as before, the same call has the same results, and these are memory of their own.
func TestNothingIsModified(t *testing.T) {
	room := []byte("banana and more")
	b := room[:6]
	s := []byte("nano")
	order := append(suffix.Order(b), 100)[:6]
	common := suffix.Common(b, order)
	found := suffix.Longest(b, order, s)
	for range 2 {
		again := suffix.Order(b)
		if !slices.Equal(again, order) || &again[0] == &order[0] {
			t.Error("Order again:", again)
		}
		clear(again)
		again = suffix.Common(b, order)
		if !slices.Equal(again, common) || &again[0] == &order[0] || &again[0] == &common[0] {
			t.Error("Common again:", again)
		}
		clear(again)
		if got := suffix.Longest(b, order, s); got != found {
			t.Error("Longest again:", got)
		}
	}
	if string(room) != "banana and more" || string(s) != "nano" || !slices.Equal(order[:7], []int{5, 3, 1, 0, 4, 2, 100}) {
		t.Errorf("modified: %q, %q, %v", room, s, order[:7])
	}
}
