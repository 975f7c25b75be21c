package block_test

import (
	"bytes"
	"math/rand/v2"
	"testing"

	"inlay/api"
	"inlay/block"
	"inlay/sample"
)

// What follows is written from the chapter alone, the plainest way, so that it is a second opinion.

// endsOf returns the ends of all blocks of b: each place is tried.
func endsOf(b []byte, least, most int) []int {
	var ends []int
	p := 0
	for i := 1; i <= len(b); i++ {
		atEnd := i == len(b)
		isFull := i-p == most
		fits := i-p >= least && (int(b[i-4])+int(b[i-3])+int(b[i-2])+int(b[i-1]))%16 == 0
		if atEnd || isFull || fits {
			ends = append(ends, i)
			p = i
		}
	}
	return ends
}

// blocksOf returns the blocks of b.
func blocksOf(b []byte, least, most int) []api.Range {
	var l []api.Range
	from := 0
	for _, to := range endsOf(b, least, most) {
		l = append(l, api.Range{From: from, To: to})
		from = to
	}
	return l
}

// matchOf compares each block of b with those of a, one after the other.
func matchOf(a, b []byte, least, most int) [][2]int {
	var l [][2]int
	for k, r := range blocksOf(b, least, most) {
		for i, s := range blocksOf(a, least, most) {
			if bytes.Equal(a[s.From:s.To], b[r.From:r.To]) {
				l = append(l, [2]int{i, k})
				break
			}
		}
	}
	return l
}

// someLimits returns limits: the ends of what they may be, equal ones, and some between.
func someLimits() [][2]int {
	return [][2]int{{4, 4}, {4, 5}, {4, 8}, {5, 5}, {5, 7}, {6, 16}, {7, 30}, {16, 64}, {4, 4096}, {100, 1000}, {4095, 4096}, {4096, 4096}}
}

// eachShortText calls f with all short texts of bytes whose sums are multiples of 16 here and there.
func eachShortText(f func(b []byte)) {
	sample.EachText(12, "\x00\x08", f)
	sample.EachText(8, "\x01\x05\xff", f)
	sample.EachText(6, "\x00\x04\x0f\xfd", f)
}

// textsOf returns texts of n bytes with few and many places where blocks may end.
func textsOf(n int) map[string][]byte {
	r := rand.New(rand.NewPCG(5, uint64(n)))
	texts := map[string][]byte{}
	for what, of := range map[string]string{
		"zeros": "\x00", "ones": "\x01", "the greatest bytes": "\xff", "fours and fives": "\x04\x05", "odd bytes": "\x01\x03\xff", "few cuts": "\x00\x01",
	} {
		b := make([]byte, n)
		for i := range b {
			b[i] = of[r.IntN(len(of))]
		}
		texts[what] = b
	}
	b := make([]byte, n)
	for i := range b {
		b[i] = byte(r.IntN(256))
	}
	texts["all bytes"] = b
	texts["a part again and again"] = bytes.Repeat(b[:min(n, 1+n/3)], 3)[:n]
	return texts
}

// mustCut returns the cuts of b with limits.
func mustCut(t *testing.T, b []byte, least, most int) []int {
	t.Helper()
	l, e := block.Cuts(b, least, most)
	if e != api.OK {
		t.Fatalf("Cuts(%q, %d, %d): error %d", b, least, most, e)
	}
	return l
}

// mustBlock returns the blocks of b with limits.
func mustBlock(t *testing.T, b []byte, least, most int) []api.Range {
	t.Helper()
	l, e := block.Blocks(b, least, most)
	if e != api.OK {
		t.Fatalf("Blocks(%q, %d, %d): error %d", b, least, most, e)
	}
	return l
}

// mustMatch returns the pairs of a and b with limits.
func mustMatch(t *testing.T, a, b []byte, least, most int) [][2]int {
	t.Helper()
	l, e := block.Match(a, b, least, most)
	if e != api.OK {
		t.Fatalf("Match(%q, %q, %d, %d): error %d", a, b, least, most, e)
	}
	return l
}
