package block_test

import (
	"bytes"
	"math"
	"math/rand/v2"
	"slices"
	"testing"

	"inlay/api"
	"inlay/block"
	"inlay/sample"
)

func span(from, to int) api.Range {
	return api.Range{From: from, To: to}
}

// P5.1 (E1, E2): examples that are worked out by hand.
func TestBlocks(t *testing.T) {
	zeros, ones := make([]byte, 10), bytes.Repeat([]byte{1}, 10)
	for _, c := range []struct {
		b           []byte
		least, most int
		cuts        []int
	}{
		{zeros, 4, 8, []int{4, 8}},
		{ones, 4, 8, []int{8}},
		{[]byte{1, 2, 3, 10, 9}, 4, 8, []int{4}},
		{[]byte{1}, 4, 8, nil},
		{zeros[:4], 4, 8, nil},      // the end is no cut
		{zeros[:5], 4, 8, []int{4}}, // the last block is shorter than the least
		{ones[:8], 4, 8, nil},       // the end is no cut, also of a full block
		{ones[:9], 4, 8, []int{8}},
		{[]byte{16, 1, 2, 3, 10, 9}, 4, 8, []int{5}}, // the sum is that of the last four bytes
		{[]byte{1, 2, 3, 10, 1, 2}, 5, 8, []int{5}},  // 2, 3, 10 and 1 are 16, 1, 2, 3 and 10 are too early
		{[]byte{1, 2, 3, 10, 2, 2}, 5, 8, nil},
		{[]byte{1, 2, 3, 10, 1, 2, 3, 4, 10}, 4, 8, []int{4}}, // 3, 10, 1 and 2, of which two are before the block, do not count
		{[]byte{255, 255, 255, 3, 9}, 4, 8, []int{4}},         // 768
		{[]byte{128, 128, 128, 128, 9}, 4, 8, []int{4}},       // 512
		{[]byte{4, 4, 4, 4, 9}, 4, 4, []int{4}},
		{[]byte{2, 2, 2, 2, 9}, 4, 8, nil}, // 8 is no multiple of 16
		{[]byte{8, 8, 8, 8, 9, 9, 9, 9, 4}, 6, 6, []int{6}},
		{append(bytes.Repeat([]byte{1}, 4096), 1), 4, 4096, []int{4096}},
		{append(bytes.Repeat([]byte{0}, 4096), 1), 4096, 4096, []int{4096}},
	} {
		if got := mustCut(t, c.b, c.least, c.most); !slices.Equal(got, c.cuts) {
			t.Errorf("Cuts(%v, %d, %d) = %v, want %v", c.b, c.least, c.most, got, c.cuts)
		}
		var want []api.Range
		from := 0
		for _, to := range append(slices.Clone(c.cuts), len(c.b)) {
			want = append(want, span(from, to))
			from = to
		}
		if got := mustBlock(t, c.b, c.least, c.most); !slices.Equal(got, want) {
			t.Errorf("Blocks(%v, %d, %d) = %v, want %v", c.b, c.least, c.most, got, want)
		}
	}
}

// P5.1 (E1, E2): no bytes have no blocks.
func TestNoBytes(t *testing.T) {
	for _, b := range [][]byte{nil, {}} {
		for _, c := range someLimits() {
			if l := mustCut(t, b, c[0], c[1]); len(l) != 0 {
				t.Errorf("no bytes have the cuts %v", l)
			}
			if l := mustBlock(t, b, c[0], c[1]); len(l) != 0 {
				t.Errorf("no bytes have the blocks %v", l)
			}
			for _, other := range [][]byte{nil, {}, make([]byte, 9)} {
				if l := slices.Concat(mustMatch(t, b, other, c[0], c[1]), mustMatch(t, other, b, c[0], c[1])); len(l) != 0 {
					t.Errorf("no bytes have the pairs %v", l)
				}
			}
		}
	}
}

// P5.1 (E1, E2): for all short texts.
func TestBlocksOfShortTexts(t *testing.T) {
	eachShortText(func(b []byte) {
		for _, c := range someLimits()[:6] {
			checkBlocks(t, b, c[0], c[1])
		}
	})
}

// P5.1 (E1, E2), P1: texts as long as images, and longer ones.
func TestBlocksOfLongTexts(t *testing.T) {
	for _, n := range []int{100, 4095, 4096, 4097, 8192, api.MaxImage - 1, api.MaxImage, api.MaxImage + 1, 1 << 20} {
		for _, b := range textsOf(n) {
			for _, c := range someLimits() {
				checkBlocks(t, b, c[0], c[1])
			}
		}
	}
}

func checkBlocks(t *testing.T, b []byte, least, most int) {
	t.Helper()
	blocks := blocksOf(b, least, most)
	if got := mustBlock(t, b, least, most); !slices.Equal(got, blocks) {
		t.Fatalf("Blocks(%q, %d, %d) = %v, want %v", b, least, most, got, blocks)
	}
	ends := endsOf(b, least, most)
	if got := mustCut(t, b, least, most); !slices.Equal(got, ends[:max(0, len(ends)-1)]) {
		t.Fatalf("Cuts(%q, %d, %d) = %v, want those of %v", b, least, most, got, ends)
	}
}

// P5.2
func TestBlocksCoverTheBytes(t *testing.T) {
	check := func(b []byte, least, most int) {
		end := 0
		for i, r := range mustBlock(t, b, least, most) {
			n := r.To - r.From
			isLast := r.To == len(b)
			if r.From != end || n < 1 || n > most || n < least && !isLast {
				t.Fatalf("%q, limits %d and %d: the block %d is %v", b, least, most, i, r)
			}
			end = r.To
		}
		if end != len(b) {
			t.Fatalf("%q, limits %d and %d: the blocks end at %d", b, least, most, end)
		}
	}
	for _, c := range someLimits() {
		for _, n := range []int{0, 1, 3, 4, 5, 8, 9, 50, 300, 5000, 20000} {
			for _, b := range textsOf(n) {
				check(b, c[0], c[1])
			}
		}
	}
}

// shifted returns the ranges, each by n.
func shifted(l []api.Range, n int) []api.Range {
	m := slices.Clone(l)
	for i := range m {
		m[i].From += n
		m[i].To += n
	}
	return m
}

// P5.3
func TestTheRestHasTheRemainingBlocks(t *testing.T) {
	check := func(b []byte, least, most int) {
		blocks := mustBlock(t, b, least, most)
		for i, cut := range mustCut(t, b, least, most) {
			rest := mustBlock(t, b[cut:], least, most)
			if want := blocks[i+1:]; !slices.Equal(shifted(rest, cut), want) {
				t.Fatalf("%q, limits %d and %d: the rest from %d on has %v, want %v", b, least, most, cut, rest, want)
			}
			if before := mustBlock(t, b[:cut], least, most); !slices.Equal(before, blocks[:i+1]) {
				t.Fatalf("%q, limits %d and %d: what is before %d has %v, want %v", b, least, most, cut, before, blocks[:i+1])
			}
		}
	}
	eachShortText(func(b []byte) { check(b, 4, 8) })
	for _, c := range someLimits() {
		for _, b := range textsOf(3 * c[1]) {
			if len(b) <= 1000 || c[0] > 1000 {
				check(b, c[0], c[1])
			}
		}
	}
}

// P5.4
func TestBeginningsHaveTheBlocksOfTheWhole(t *testing.T) {
	check := func(b []byte, least, most int) {
		whole := mustBlock(t, b, least, most)
		for n := 1; n < len(b); n++ {
			l := mustBlock(t, b[:n], least, most)
			last := len(l) - 1
			if last >= len(whole) || !slices.Equal(l[:last], whole[:last]) || l[last].From != whole[last].From || l[last].To > whole[last].To {
				t.Fatalf("%q, limits %d and %d: %d bytes have %v, all have %v", b, least, most, n, l, whole)
			}
		}
	}
	sample.EachText(11, "\x00\x08", func(b []byte) { check(b, 4, 7) })
	for _, c := range someLimits()[:9] {
		for _, b := range textsOf(500) {
			check(b, c[0], c[1])
		}
	}
}

// after returns how many bytes each block has that begins where n bytes are left, or later; and whether there is a
// cut at that place.
func after(t *testing.T, b []byte, n, least, most int) ([]int, bool) {
	t.Helper()
	var lengths []int
	for _, r := range mustBlock(t, b, least, most) {
		if r.From >= len(b)-n {
			lengths = append(lengths, r.To-r.From)
		}
	}
	return lengths, slices.Contains(mustCut(t, b, least, most), len(b)-n)
}

// P5.5: whatever is before the part that is alike.
func TestTextsThatMeet(t *testing.T) {
	r := rand.New(rand.NewPCG(5, 5))
	met := 0
	for range 300 {
		least := 4 + r.IntN(5)
		most := least + r.IntN(20)
		part := textsOf(60 + r.IntN(60))
		for what, end := range part {
			a := append(textsOf(r.IntN(50))["all bytes"], end...)
			b := append(textsOf(r.IntN(50))[what], end...)
			for n := 1; n <= len(end); n++ {
				ofA, isCutOfA := after(t, a, n, least, most)
				ofB, isCutOfB := after(t, b, n, least, most)
				if !isCutOfA || !isCutOfB {
					continue
				}
				met++
				if !slices.Equal(ofA, ofB) {
					t.Fatalf("%q and %q, limits %d and %d, cuts before the last %d bytes: %v and %v", a, b, least, most, n, ofA, ofB)
				}
			}
		}
	}
	if met < 1000 {
		t.Errorf("only %d cuts are common ones", met)
	}
}

// P5.7: for each byte.
func TestRunsOfOneByte(t *testing.T) {
	for x := range 256 {
		for _, c := range someLimits() {
			for _, n := range []int{1, 3, 4, 5, 7, 8, 9, 100, 3 * c[0], 3*c[1] + 1, 4 * c[1]} {
				size := c[1]
				if x%4 == 0 {
					size = c[0]
				}
				var want []int
				for cut := size; cut < n; cut += size {
					want = append(want, cut)
				}
				if got := mustCut(t, bytes.Repeat([]byte{byte(x)}, n), c[0], c[1]); !slices.Equal(got, want) {
					t.Fatalf("%d bytes %d, limits %d and %d: the cuts are %v, want %v", n, x, c[0], c[1], got, want)
				}
			}
		}
	}
}

// P5.8, P1
func TestOtherLimitsAreRefused(t *testing.T) {
	numbers := []int{math.MinInt, math.MinInt + 1, -4096, -8, -4, -1, 0, 1, 2, 3, 4, 5, 6, 7, 8, 9, 100, 4094, 4095, 4096, 4097, 4098, 8192, math.MaxInt - 1, math.MaxInt}
	for _, least := range numbers {
		for _, most := range numbers {
			want := api.ErrArg
			if 4 <= least && least <= most && most <= 4096 {
				want = api.OK
			}
			for _, b := range [][]byte{nil, {1}, make([]byte, 20), make([]byte, 9000)} {
				cuts, e := block.Cuts(b, least, most)
				blocks, f := block.Blocks(b, least, most)
				pairs, g := block.Match(b, b, least, most)
				if e != want || f != want || g != want {
					t.Fatalf("%d bytes, limits %d and %d: errors %d, %d and %d, want %d", len(b), least, most, e, f, g, want)
				}
				if want != api.OK && len(cuts)+len(blocks)+len(pairs) > 0 {
					t.Fatalf("%d bytes, limits %d and %d: with an error %v, %v and %v", len(b), least, most, cuts, blocks, pairs)
				}
			}
		}
	}
}

// P2, E4: arguments stay as they are, and results are new.
func TestArgumentsStay(t *testing.T) {
	for _, n := range []int{0, 5, 100, 5000} {
		for what, a := range textsOf(n) {
			b := textsOf(n + 3)[what]
			oldA, oldB := bytes.Clone(a), bytes.Clone(b)
			cuts, blocks, pairs := mustCut(t, a, 4, 8), mustBlock(t, a, 4, 8), mustMatch(t, a, b, 4, 8)
			clear(mustCut(t, a, 4, 8))
			clear(mustBlock(t, a, 4, 8))
			clear(mustMatch(t, a, b, 4, 8))
			if !bytes.Equal(a, oldA) || !bytes.Equal(b, oldB) {
				t.Fatalf("%s: the arguments have changed", what)
			}
			if !slices.Equal(cuts, mustCut(t, a, 4, 8)) || !slices.Equal(blocks, mustBlock(t, a, 4, 8)) || !slices.Equal(pairs, mustMatch(t, a, b, 4, 8)) {
				t.Fatalf("%s: the results of equal calls differ", what)
			}
		}
	}
}
