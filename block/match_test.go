package block_test

import (
	"bytes"
	"math/rand/v2"
	"slices"
	"testing"

	"inlay/api"
	"inlay/sample"
)

// P5.1 (E3): examples that are worked out by hand.
func TestMatch(t *testing.T) {
	zeros := make([]byte, 8)
	other := []byte{1, 2, 3, 10}
	for _, c := range []struct {
		a, b []byte
		want [][2]int
	}{
		{zeros[:4], zeros, [][2]int{{0, 0}, {0, 1}}},
		{zeros, zeros[:4], [][2]int{{0, 0}}}, // the first one of two
		{zeros[:4], other, nil},
		{slices.Concat(zeros, other), slices.Concat(other, zeros), [][2]int{{2, 0}, {0, 1}, {0, 2}}},
		{slices.Concat(other, zeros, other), slices.Concat(zeros, other, other), [][2]int{{1, 0}, {1, 1}, {0, 2}, {0, 3}}},
		{slices.Concat(zeros, []byte{1}), []byte{1}, [][2]int{{2, 0}}}, // last blocks are blocks too
		{slices.Concat(zeros, []byte{1}), []byte{1, 0, 0, 0}, nil},     // a beginning is not equal
		{slices.Concat(zeros, other, []byte{1, 2}), []byte{1, 2, 3}, nil},
		{[]byte{1, 1, 1, 1, 1, 1, 1, 1}, []byte{1, 1, 1, 1, 1, 1, 1, 2}, nil}, // one byte differs
		{[]byte{0xC3, 0xA9, 0xFF, 0xFE}, []byte{0xC3, 0xA9, 0xFF, 0xFD}, nil}, // they are bytes, no characters
		{[]byte{0xC3, 0xA9, 0xFF, 0xFE}, []byte{0xC3, 0xA9, 0xFF, 0xFE}, [][2]int{{0, 0}}},
	} {
		if got := mustMatch(t, c.a, c.b, 4, 8); !slices.Equal(got, c.want) {
			t.Errorf("Match(%v, %v) = %v, want %v", c.a, c.b, got, c.want)
		}
	}
}

// P5.1 (E3), P5.6: for all pairs of some short texts.
func TestMatchOfShortTexts(t *testing.T) {
	var texts [][]byte
	sample.EachText(7, "\x00\x08", func(b []byte) { texts = append(texts, b) })
	sample.EachText(3, "\x04\x05\x06", func(b []byte) { texts = append(texts, bytes.Repeat(b, 5)) })
	for _, a := range texts {
		for _, b := range texts {
			checkMatch(t, a, b, 4, 5)
		}
	}
}

// P5.1 (E3), P5.6: texts that are made of the same parts.
func TestMatchOfLongTexts(t *testing.T) {
	r := rand.New(rand.NewPCG(5, 6))
	for _, c := range someLimits()[:8] {
		for range 20 {
			checkMatch(t, ofParts(r), ofParts(r), c[0], c[1])
		}
		for what, a := range textsOf(700) {
			checkMatch(t, a, textsOf(703)[what], c[0], c[1])
			checkMatch(t, a, slices.Concat(a[100:], []byte("some more"), a[:300]), c[0], c[1])
		}
	}
}

// ofParts returns a text of some parts, of which each one may come again.
func ofParts(r *rand.Rand) []byte {
	var b []byte
	for range 3 + r.IntN(8) {
		part := textsOf(40 + 10*r.IntN(4))
		b = append(b, part["all bytes"]...)
		b = append(b, part["few cuts"]...)
	}
	return b
}

func checkMatch(t *testing.T, a, b []byte, least, most int) {
	t.Helper()
	pairs := mustMatch(t, a, b, least, most)
	if want := matchOf(a, b, least, most); !slices.Equal(pairs, want) {
		t.Fatalf("Match(%q, %q, %d, %d) = %v, want %v", a, b, least, most, pairs, want)
	}
	ofA, ofB := textsOfBlocks(t, a, least, most), textsOfBlocks(t, b, least, most)
	next := 0
	for k, text := range ofB {
		hasPair := next < len(pairs) && pairs[next][1] == k
		if hasPair && ofA[pairs[next][0]] != text {
			t.Fatalf("Match(%q, %q, %d, %d): the bytes of %v differ", a, b, least, most, pairs[next])
		}
		if hasPair {
			next++
		}
		if !hasPair && slices.Contains(ofA, text) {
			t.Fatalf("Match(%q, %q, %d, %d): the block %d has no pair in %v", a, b, least, most, k, pairs)
		}
	}
	if next != len(pairs) {
		t.Fatalf("Match(%q, %q, %d, %d): %v has pairs of no blocks", a, b, least, most, pairs)
	}
}

// textsOfBlocks returns the bytes of each block of b.
func textsOfBlocks(t *testing.T, b []byte, least, most int) []string {
	t.Helper()
	var texts []string
	for _, r := range mustBlock(t, b, least, most) {
		texts = append(texts, string(b[r.From:r.To]))
	}
	return texts
}

// P5.6: a text matches itself in all blocks, each with the first one of its bytes.
func TestATextMatchesItself(t *testing.T) {
	check := func(b []byte, least, most int) {
		texts := textsOfBlocks(t, b, least, most)
		pairs := mustMatch(t, b, b, least, most)
		if len(pairs) != len(texts) {
			t.Fatalf("%q, limits %d and %d: %d blocks, %d pairs", b, least, most, len(texts), len(pairs))
		}
		first := map[string]int{}
		for i := len(texts) - 1; i >= 0; i-- {
			first[texts[i]] = i
		}
		for k, pair := range pairs {
			if pair != [2]int{first[texts[k]], k} {
				t.Fatalf("%q, limits %d and %d: the block %d has the pair %v", b, least, most, k, pair)
			}
		}
	}
	eachShortText(func(b []byte) { check(b, 4, 6) })
	for _, c := range someLimits() {
		for _, n := range []int{500, 9000, api.MaxImage, 1 << 19} {
			for _, b := range textsOf(n) {
				check(b, c[0], c[1])
			}
		}
	}
}
