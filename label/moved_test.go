package label_test

import (
	"bytes"
	"math"
	"math/rand/v2"
	"slices"
	"testing"

	"inlay/api"
	"inlay/inst"
	"inlay/label"
)

// P3.1 (C3)
func TestMoved(t *testing.T) {
	example := []uint32{0x01010203, 0x05FFFFFF, 0x07050000}
	for what, c := range map[string]struct {
		words  []uint32
		at, by int
		want   []uint32
	}{
		"the example":                      {example, 1, 1, []uint32{0x01010203, 0, 0x05FFFFFE, 0x07050000}},
		"before all words":                 {example, 0, 1, []uint32{0, 0x01010203, 0x05FFFFFF, 0x07050000}},
		"before the last word":             {example, 2, 2, []uint32{0x01010203, 0x05FFFFFF, 0, 0, 0x07050000}},
		"after all words":                  {example, 3, 2, []uint32{0x01010203, 0x05FFFFFF, 0x07050000, 0, 0}},
		"by nothing":                       {example, 2, 0, example},
		"nothing":                          {nil, 0, 0, nil},
		"nothing by two":                   {nil, 0, 2, []uint32{0, 0}},
		"a target at the place":            {[]uint32{0x05000001, 0}, 1, 3, []uint32{0x05000004, 0, 0, 0, 0}},
		"a target before the place":        {[]uint32{0, 0x0702FFFF}, 1, 3, []uint32{0, 0, 0, 0, 0x0702FFFC}},
		"a pool over the place":            {[]uint32{0x08070002, 0, 0}, 1, 1, []uint32{0x08070003, 0, 0, 0}},
		"a pool that is its own":           {[]uint32{0, 0x08070000}, 1, 1, []uint32{0, 0, 0x08070000}},
		"a call back and one ahead":        {[]uint32{0x06000001, 0x06FFFFFF}, 1, 1, []uint32{0x06000002, 0, 0x06FFFFFE}},
		"a target still before the code":   {[]uint32{0x05FFFFFE}, 0, 1, []uint32{0, 0x05FFFFFE}},
		"a target before it that is still": {[]uint32{0x05FFFFFF, 0}, 1, 9, []uint32{0x05FFFFFF, 0, 0, 0, 0, 0, 0, 0, 0, 0, 0}},
		"a target after it that moves":     {[]uint32{0, 0x05000001}, 1, 9, []uint32{0, 0, 0, 0, 0, 0, 0, 0, 0, 0, 0x05000001}},
		"a target after it that is still":  {[]uint32{0x05000003}, 1, 2, []uint32{0x05000003, 0, 0}},
	} {
		got, e := label.Moved(code(c.words...), c.at, c.by)
		if e != api.OK || !bytes.Equal(got, code(c.want...)) {
			t.Errorf("%s: %x, %v, want %08x", what, got, e, c.want)
		}
	}
}

// P3.1 (C3), P3.8, P1
func TestMovedRefuses(t *testing.T) {
	example := code(0x01010203, 0x05FFFFFF, 0x07050000)
	for what, c := range map[string]struct {
		b      []byte
		at, by int
	}{
		"a byte that is no code":             {[]byte{1}, 0, 0},
		"seven bytes":                        {make([]byte, 7), 0, 1},
		"a word more than code has":          {make([]byte, api.MaxImage+4), 0, 0},
		"a place before all words":           {example, -1, 0},
		"a place after the last one":         {example, 4, 0},
		"a place in bytes":                   {example, 12, 1},
		"the least place":                    {example, math.MinInt, 1},
		"the greatest place":                 {example, math.MaxInt, 1},
		"a place of nothing":                 {nil, 1, 0},
		"a negative number":                  {example, 0, -1},
		"the least number":                   {example, 0, math.MinInt},
		"the greatest number":                {example, 0, math.MaxInt},
		"a number whose fourfold is 0":       {example, 0, 1 << 62},
		"a number whose fourfold is 4":       {example, 0, 1<<62 + 1},
		"a result that is too long":          {example, 0, maxWords - 2},
		"a result of nothing that is so":     {nil, 0, maxWords + 1},
		"the longest code, and a word":       {make([]byte, api.MaxImage), 5, 1},
		"a jump behind the last word":        {code(0x05000001), 1, 1},
		"a pool behind the last word":        {code(0x08000002), 1, 2},
		"a branch behind it, far enough in":  {code(0, 0x07000003), 2, 3},
		"a call before the first word":       {code(0x06FFFFFF), 0, 1},
		"a branch before it that moves":      {code(0, 0x0700FFFE), 1, 1},
		"a jump before it, amid the words 0": {code(0x05FFFFFD), 0, 5},
	} {
		if got, e := label.Moved(c.b, c.at, c.by); e != api.ErrLabel || len(got) != 0 {
			t.Errorf("%s: %d bytes, %v, want ErrLabel", what, len(got), e)
		}
	}
}

// eachMove gives code, places and numbers to f, some of which are refused.
func eachMove(f func(words []uint32, at, by int)) {
	eachCode(func(words []uint32) {
		n := len(words)
		if n > 20 {
			for _, at := range []int{-1, 0, 1, n / 3, n - 1, n, n + 1} {
				for _, by := range []int{0, 1, 17, maxWords - n, maxWords - n + 1} {
					f(words, at, by)
				}
			}
			return
		}
		for at := -1; at <= n+1; at++ {
			for by := -1; by <= 3; by++ {
				f(words, at, by)
			}
		}
	})
	r := rand.New(rand.NewPCG(3, 4))
	for n := range 40 {
		for range 20 {
			f(insideOnly(someWords(r, n)), r.IntN(n+1), r.IntN(20))
		}
	}
	for _, by := range []int{0, 1, 3} {
		f(insideOnly(allLinked()[by:]), 0, by)
	}
}

// insideOnly returns the words, but with 0 for those with targets outside, so that they can be moved.
func insideOnly(words []uint32) []uint32 {
	out := make([]uint32, len(words))
	for i, w := range words {
		_, linked := targetOf(w, i, len(words))
		if _, ok := rowOf(w); linked || !ok {
			out[i] = w
		}
	}
	return out
}

// P3.1 (C3), P3.8
func TestMovedCodeIsWhatTheChapterSays(t *testing.T) {
	var moved tally
	eachMove(func(words []uint32, at, by int) {
		got, e := label.Moved(code(words...), at, by)
		want, ok := movedOf(words, at, by)
		if ok && (e != api.OK || !bytes.Equal(got, code(want...))) {
			t.Fatalf("Moved of %08x at %d by %d: %x, %v, want %08x", words, at, by, got, e, want)
		}
		if !ok && (e != api.ErrLabel || len(got) != 0) {
			t.Fatalf("Moved of %08x at %d by %d: %x, %v, want ErrLabel", words, at, by, got, e)
		}
		moved.count(ok)
	})
	moved.check(t, 10000, 10000)
}

// P3.4
func TestMovedCodeHasTheSameLiftedWords(t *testing.T) {
	eachMove(func(words []uint32, at, by int) {
		got, e := label.Moved(code(words...), at, by)
		if e != api.OK {
			return
		}
		x, _ := label.Lift(code(words...))
		want := api.Lifted{
			Words: slices.Concat(x.Words[:at], make([]uint32, by), x.Words[at:]),
			Marks: slices.Concat(x.Marks[:at], make([]bool, by), x.Marks[at:]),
		}
		for _, l := range x.Labels {
			if l >= 4*at {
				l += 4 * by
			}
			want.Labels = append(want.Labels, l)
		}
		if y, e := label.Lift(got); e != api.OK || !same(y, want) {
			t.Fatalf("Moved of %08x at %d by %d: lifted %s, %v, want %s", words, at, by, show(y), e, show(want))
		}
	})
}

// P3.5
func TestInstructionsOfMovedCode(t *testing.T) {
	var inside tally
	eachMove(func(words []uint32, at, by int) {
		got, e := label.Moved(code(words...), at, by)
		if e != api.OK {
			return
		}
		after := wordsOf(got)
		for i, w := range words {
			want, place := inst.Decode(w, 4*i), 4*i
			if i >= at {
				place += 4 * by
			}
			switch hasTarget := want.Op >= api.Jump; {
			case hasTarget && want.N >= 0 && want.N < 4*len(words):
				if want.N >= 4*at {
					want.N += 4 * by
				}
				inside.count(true)
			case hasTarget:
				want.N += place - 4*i
				inside.count(false)
			}
			if x := inst.Decode(after[place/4], place); x != want {
				t.Fatalf("Moved of %08x at %d by %d: word %d is %v, want %v", words, at, by, place/4, x, want)
			}
		}
		for i := range by {
			if after[at+i] != 0 {
				t.Fatalf("Moved of %08x at %d by %d: the word %d is %08x", words, at, by, at+i, after[at+i])
			}
		}
	})
	inside.check(t, 10000, 10000)
}

// P3.8: the longest code is as long as code may be, and not longer.
func TestMovedUpToTheLongestCode(t *testing.T) {
	for _, n := range []int{0, 1, 2, 100, maxWords - 1, maxWords} {
		b := make([]byte, 4*n)
		for _, at := range []int{0, n / 2, n} {
			if got, e := label.Moved(b, at, maxWords-n); e != api.OK || len(got) != api.MaxImage {
				t.Errorf("%d words at %d up to the longest code: %d bytes, %v", n, at, len(got), e)
			}
			if got, e := label.Moved(b, at, maxWords-n+1); e != api.ErrLabel || len(got) != 0 {
				t.Errorf("%d words at %d, one too much: %d bytes, %v", n, at, len(got), e)
			}
		}
	}
	far := code(0x05000001, 0, 0x0701FFFE) // over the place 1, and back
	got, e := label.Moved(far, 1, maxWords-3)
	if want := append(code(0x05003FFE), make([]byte, 4*(maxWords-2))...); e != api.OK || !bytes.Equal(got, append(want, 7, 1, 0xC0, 1)) {
		t.Errorf("distances over the longest code: %d bytes, %v", len(got), e)
	}
}

// P2 (C4)
func TestMovedModifiesNothing(t *testing.T) {
	b := code(0x01010203, 0x05FFFFFF, 0x07050000)
	before := bytes.Clone(b)
	for _, at := range []int{0, 1, 3} {
		for by := range 3 {
			first, _ := label.Moved(b, at, by)
			want := bytes.Clone(first)
			clear(first)
			if again, e := label.Moved(b, at, by); e != api.OK || !bytes.Equal(again, want) || !bytes.Equal(b, before) {
				t.Errorf("at %d by %d: %x, %v after the same call", at, by, again, e)
			}
		}
	}
}
