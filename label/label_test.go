package label_test

import (
	"bytes"
	"math"
	"math/rand/v2"
	"slices"
	"testing"

	"inlay/api"
	"inlay/inst"
	"inlay/label"
)

// lifted returns a lifted form, whose marks are the letters x of a text.
func lifted(marks string, words []uint32, labels ...int) api.Lifted {
	x := api.Lifted{Words: words, Labels: labels}
	for _, c := range marks {
		x.Marks = append(x.Marks, c == 'x')
	}
	return x
}

// pairs are codes with their lifted forms, written by hand.
var pairs = map[string]struct {
	words []uint32
	want  api.Lifted
}{
	"nothing":                        {nil, api.Lifted{}},
	"the example":                    {[]uint32{0x01010203, 0x05FFFFFF, 0x07050000}, lifted("-xx", []uint32{0x01010203, 0x05000000, 0x07050001}, 0, 8)},
	"a jump to itself":               {[]uint32{0x05000000}, lifted("x", []uint32{0x05000000}, 0)},
	"a jump to the end":              {[]uint32{0x05000001}, lifted("-", []uint32{0x05000001})},
	"a call before the code":         {[]uint32{0x06FFFFFF}, lifted("-", []uint32{0x06FFFFFF})},
	"a branch before the code":       {[]uint32{0x0700FFFF, 0x0700FFFE}, lifted("--", []uint32{0x0700FFFF, 0x0700FFFE})},
	"a branch to the end":            {[]uint32{0x07010001}, lifted("-", []uint32{0x07010001})},
	"a pool to the end":              {[]uint32{0, 0x08010001}, lifted("--", []uint32{0, 0x08010001})},
	"the first and the last word":    {[]uint32{0x06000002, 0x08090001, 0x07FFFFFE}, lifted("xx-", []uint32{0x06000000, 0x08090000, 0x07FFFFFE}, 8)},
	"a branch back":                  {[]uint32{0, 0, 0x070FFFFE}, lifted("--x", []uint32{0, 0, 0x070F0000}, 0)},
	"registers above 15":             {[]uint32{0x07100000, 0x08100000, 0x08FF0000}, lifted("---", []uint32{0x07100000, 0x08100000, 0x08FF0000})},
	"all kinds without a target":     {[]uint32{0, 0x01000000, 0x02000000, 0x03000000, 0x04000000, 0x09000000}, lifted("------", []uint32{0, 0x01000000, 0x02000000, 0x03000000, 0x04000000, 0x09000000})},
	"one label for all":              {[]uint32{0x05000001, 0x06000000, 0x0702FFFF, 0x08020000}, lifted("xxxx", []uint32{0x05000000, 0x06000000, 0x07020000, 0x08020001}, 4, 12)},
	"targets that get less":          {[]uint32{0x05000003, 0x05000001, 0x05FFFFFF, 0x05FFFFFD}, lifted("xxxx", []uint32{0x05000003, 0x05000002, 0x05000001, 0x05000000}, 0, 4, 8, 12)},
	"distances as great as they get": {[]uint32{0x05800000, 0x067FFFFF, 0x07007FFF, 0x07008000, 0x0800FFFF}, lifted("-----", []uint32{0x05800000, 0x067FFFFF, 0x07007FFF, 0x07008000, 0x0800FFFF})},
}

// P3.1 (C1), P3.2
func TestLiftAndLower(t *testing.T) {
	for what, c := range pairs {
		if got, e := label.Lift(code(c.words...)); e != api.OK || !same(got, c.want) {
			t.Errorf("%s: Lift: %s, %v, want %s", what, show(got), e, show(c.want))
		}
		if got, e := label.Lower(c.want); e != api.OK || !bytes.Equal(got, code(c.words...)) {
			t.Errorf("%s: Lower: %x, %v, want %08x", what, got, e, c.words)
		}
	}
}

// P3.1 (C1), P3.2: for codes of all words that differ in what the chapter says of them.
func TestLiftedFormsAreWhatTheChapterSays(t *testing.T) {
	var marked tally
	eachCode(func(words []uint32) {
		b, want := code(words...), liftedOf(words)
		x, e := label.Lift(b)
		if e != api.OK || !same(x, want) {
			t.Fatalf("Lift of %08x: %s, %v, want %s", words, show(x), e, show(want))
		}
		if again, e := label.Lower(want); e != api.OK || !bytes.Equal(again, b) {
			t.Fatalf("Lower of %s: %x, %v, want %x", show(want), again, e, b)
		}
		for _, m := range x.Marks {
			marked.count(m)
		}
	})
	marked.check(t, 5000, 5000)
}

// P3.3
func TestLabelsAreTheTargets(t *testing.T) {
	eachCode(func(words []uint32) {
		x, e := label.Lift(code(words...))
		if e != api.OK || len(x.Words) != len(words) || len(x.Marks) != len(words) {
			t.Fatalf("Lift of %08x: %s, %v", words, show(x), e)
		}
		used := map[int]bool{}
		for i, w := range words {
			target, linked := targetOf(w, i, len(words))
			if linked != x.Marks[i] {
				t.Fatalf("word %d of %08x: the mark is %v", i, words, x.Marks[i])
			}
			if !linked {
				continue
			}
			r, _ := rowOf(w)
			index := int(x.Words[i] & r.bits)
			if index >= len(x.Labels) || x.Labels[index] != 4*target || x.Words[i]&^r.bits != w&^r.bits {
				t.Fatalf("word %d of %08x: %08x with the labels %v", i, words, x.Words[i], x.Labels)
			}
			used[index] = true
		}
		if len(used) != len(x.Labels) {
			t.Fatalf("%08x: %d of the labels %v are targets", words, len(used), x.Labels)
		}
		for i, at := range x.Labels {
			if i > 0 && at <= x.Labels[i-1] {
				t.Fatalf("%08x: the labels %v do not increase", words, x.Labels)
			}
		}
	})
}

// P3.3: the labels are those that layer 2 decodes.
func TestLabelsAreTheTargetsOfInstructions(t *testing.T) {
	eachCode(func(words []uint32) {
		var want []int
		for i, w := range words {
			in := inst.Decode(w, 4*i)
			if in.Op >= api.Jump && in.N >= 0 && in.N < 4*len(words) {
				want = append(want, in.N)
			}
		}
		slices.Sort(want)
		want = slices.Compact(want)
		if x, e := label.Lift(code(words...)); e != api.OK || !slices.Equal(x.Labels, want) {
			t.Fatalf("Lift of %08x: the labels %v, %v, want %v", words, x.Labels, e, want)
		}
	})
}

// checkLower compares Lower with the conditions of the chapter, and reports whether x is right.
func checkLower(t *testing.T, x api.Lifted) bool {
	t.Helper()
	b, e := label.Lower(x)
	if !isRight(x) {
		if e != api.ErrLabel || len(b) != 0 {
			t.Fatalf("Lower of %s: %x, %v, want ErrLabel", show(x), b, e)
		}
		return false
	}
	if e != api.OK || !bytes.Equal(b, code(loweredOf(x)...)) {
		t.Fatalf("Lower of %s: %x, %v, want %08x", show(x), b, e, loweredOf(x))
	}
	if again, e := label.Lift(b); e != api.OK || !same(again, x) {
		t.Fatalf("Lower accepts %s, but the code has the lifted form %s, %v", show(x), show(again), e)
	}
	return true
}

// eachList gives lists of up to n of the numbers to f.
func eachList(numbers []int, n int, f func(l []int)) {
	f(nil)
	if n == 0 {
		return
	}
	for _, x := range numbers {
		eachList(numbers, n-1, func(l []int) { f(append([]int{x}, l...)) })
	}
}

// P3.2, P3.7, P3.1 (C1): all that can be put together of up to two words, some of whose indices are too
// great, all marks, and up to two labels.
func TestLowerAcceptsLiftedFormsOnly(t *testing.T) {
	words := []uint32{0, 0x01000000, 0x05000000, 0x05000001, 0x05010000, 0x06000000, 0x06000001, 0x06000002, 0x07030000, 0x0703FFFF, 0x07100000, 0x08030000, 0x08030001, 0x08100000}
	var right tally
	check := func(x api.Lifted) { right.count(checkLower(t, x)) }
	eachList([]int{-4, 0, 1, 4, 8}, 2, func(labels []int) {
		check(api.Lifted{Labels: labels})
		for _, a := range words {
			check(lifted("-", []uint32{a}, labels...))
			check(lifted("x", []uint32{a}, labels...))
			for _, b := range words {
				for _, marks := range []string{"--", "-x", "x-", "xx"} {
					check(lifted(marks, []uint32{a, b}, labels...))
				}
			}
		}
	})
	right.check(t, 100, 1000)
}

// P3.7
func TestLowerRefuses(t *testing.T) {
	long := make([]uint32, maxWords+1)
	for what, x := range map[string]api.Lifted{
		"a word that is linked, but not marked":        lifted("-", []uint32{0x05000000}),
		"such a word beside its label":                 lifted("x-", []uint32{0x05000000, 0x06000000}, 0),
		"a marked word without labels":                 lifted("x", []uint32{0x05000000}),
		"an index that is too great":                   lifted("xx", []uint32{0x05000000, 0x06000001}, 0),
		"an index with bits above the first 16":        lifted("x", []uint32{0x05010000}, 0),
		"an index of a branch that is too great":       lifted("x", []uint32{0x0700FFFF}, 0),
		"a marked word without a target":               lifted("x", []uint32{0x01000000}, 0),
		"marked data":                                  lifted("x", []uint32{0}, 0),
		"a marked branch with the register 16":         lifted("x", []uint32{0x07100000}, 0),
		"a marked pool with the register 16":           lifted("x", []uint32{0x08100000}, 0),
		"a pool with a label before it":                lifted("-x", []uint32{0, 0x08000000}, 0),
		"a label that is not used":                     lifted("x", []uint32{0x05000000}, 0, 4),
		"a first label that is not used":               lifted("-x", []uint32{0, 0x05000001}, 0, 4),
		"a label without words":                        lifted("", nil, 0),
		"a label at the end":                           lifted("x", []uint32{0x05000000}, 4),
		"a label before the code":                      lifted("x", []uint32{0x05000000}, -4),
		"a label that is no multiple of 4":             lifted("xx", []uint32{0x05000000, 0}, 2),
		"a label that is no multiple of 4 for a pool":  lifted("x-", []uint32{0x08000000, 0}, 1),
		"equal labels":                                 lifted("xx", []uint32{0x05000000, 0x05000001}, 4, 4),
		"labels that get less":                         lifted("xx", []uint32{0x05000001, 0x05000000}, 4, 0),
		"a label as great as numbers get":              lifted("x", []uint32{0x05000000}, math.MaxInt),
		"a label as great as multiples of 4 get":       lifted("x", []uint32{0x06000000}, math.MaxInt-3),
		"a label as small as numbers get":              lifted("x", []uint32{0x08000000}, math.MinInt),
		"a label 2^26 further":                         lifted("x", []uint32{0x05000000}, 1<<26),
		"a label 2^18 further":                         lifted("x", []uint32{0x07000000}, 1<<18),
		"a label 2^32 further":                         lifted("x", []uint32{0x08000000}, 1<<32),
		"no marks":                                     {Words: []uint32{0}},
		"a mark too few":                               lifted("-", []uint32{0, 0}),
		"a mark too much":                              lifted("--", []uint32{0}),
		"a mark too much that is set":                  lifted("xx", []uint32{0x05000000}, 0),
		"marks without words":                          lifted("-", nil),
		"a word too much":                              {Words: long, Marks: make([]bool, maxWords+1)},
		"a word too much, and as many marks as may be": {Words: long, Marks: make([]bool, maxWords)},
	} {
		if b, e := label.Lower(x); e != api.ErrLabel || len(b) != 0 {
			t.Errorf("%s: %d bytes, %v, want ErrLabel", what, len(b), e)
		}
		if isRight(x) {
			t.Errorf("%s: it is right", what)
		}
	}
}

// eachDamage gives lifted forms to f that differ from the right x in one word, mark or label.
func eachDamage(r *rand.Rand, x api.Lifted, f func(y api.Lifted)) {
	change := func(do func(y *api.Lifted)) {
		y := clone(x)
		do(&y)
		f(y)
	}
	for i := range x.Words {
		change(func(y *api.Lifted) { y.Marks[i] = !y.Marks[i] })
		for _, bit := range []int{0, 1, 15, 16, 20, 23, 24, 25, 26, 27, r.IntN(32)} {
			change(func(y *api.Lifted) { y.Words[i] ^= 1 << bit })
		}
		change(func(y *api.Lifted) { y.Words = slices.Delete(y.Words, i, i+1) })
		change(func(y *api.Lifted) { y.Marks = slices.Delete(y.Marks, i, i+1) })
	}
	for i := range x.Labels {
		for _, d := range []int{-4, -2, -1, 1, 2, 4, 1 << 16, 1 << 20, -1 << 20, 1 << 40} {
			change(func(y *api.Lifted) { y.Labels[i] += d })
		}
		change(func(y *api.Lifted) { y.Labels = slices.Delete(y.Labels, i, i+1) })
		change(func(y *api.Lifted) { y.Labels = slices.Insert(y.Labels, i, y.Labels[i]) })
		change(func(y *api.Lifted) { slices.Reverse(y.Labels[i:]) })
	}
	change(func(y *api.Lifted) { y.Words = append(y.Words, 0) })
	change(func(y *api.Lifted) { y.Marks = append(y.Marks, false) })
	change(func(y *api.Lifted) { y.Words, y.Marks = append(y.Words, 0), append(y.Marks, false) })
	change(func(y *api.Lifted) { y.Labels = append(y.Labels, 4*len(y.Words)) })
}

// P3.7, P3.2
func TestDamagedLiftedForms(t *testing.T) {
	r := rand.New(rand.NewPCG(3, 7))
	var right tally
	for n := range 24 {
		for range 12 {
			eachDamage(r, liftedOf(someWords(r, n)), func(y api.Lifted) { right.count(checkLower(t, y)) })
		}
	}
	right.check(t, 500, 5000)
}

// P3.8, P3.1 (C1), P1
func TestLiftRefusesOtherLengths(t *testing.T) {
	b := bytes.Repeat([]byte{5, 0, 0, 0}, maxWords+20)
	for n := range b {
		if n > 100 && n < api.MaxImage-20 {
			continue
		}
		x, e := label.Lift(b[:n])
		switch {
		case n%4 == 0 && n <= api.MaxImage:
			if e != api.OK || len(x.Words) != n/4 || len(x.Marks) != n/4 || len(x.Labels) != n/4 {
				t.Errorf("%d bytes: %d words, %v", n, len(x.Words), e)
			}
		case e != api.ErrLabel || !isEmpty(x):
			t.Errorf("%d bytes: %d words, %v, want ErrLabel", n, len(x.Words), e)
		}
	}
}

// P3.8, P3.2: the longest code has as many labels as words, and targets at both of its ends.
func TestTheLongestCode(t *testing.T) {
	words := allLinked()
	x, e := label.Lift(code(words...))
	if e != api.OK || !same(x, liftedOf(words)) || len(x.Labels) != maxWords || slices.Contains(x.Marks, false) {
		t.Fatalf("Lift: %d words, %d labels, %v", len(x.Words), len(x.Labels), e)
	}
	if x.Labels[0] != 0 || x.Labels[maxWords-1] != api.MaxImage-4 || x.Words[0] != 0x05003FFF || x.Words[maxWords-1] != 0x06000000 {
		t.Errorf("Lift: labels from %d to %d, words from %08x to %08x", x.Labels[0], x.Labels[maxWords-1], x.Words[0], x.Words[maxWords-1])
	}
	if b, e := label.Lower(x); e != api.OK || !bytes.Equal(b, code(words...)) {
		t.Errorf("Lower: %d bytes, %v", len(b), e)
	}
	x.Words, x.Marks = append(x.Words, 0), append(x.Marks, false)
	if b, e := label.Lower(x); e != api.ErrLabel || len(b) != 0 {
		t.Errorf("Lower of a word more: %d bytes, %v", len(b), e)
	}
}

// P2 (C4): arguments keep their values, and results have memory of their own.
func TestLiftAndLowerModifyNothing(t *testing.T) {
	words := []uint32{0x01010203, 0x05FFFFFF, 0x07050000}
	b := code(words...)
	x, _ := label.Lift(b)
	if !bytes.Equal(b, code(words...)) {
		t.Errorf("Lift modifies its argument: %x", b)
	}
	before := clone(x)
	low, _ := label.Lower(x)
	if !same(x, before) {
		t.Errorf("Lower modifies its argument: %s", show(x))
	}
	clear(low)
	if again, e := label.Lower(x); e != api.OK || !same(x, before) || !bytes.Equal(again, b) {
		t.Errorf("Lower: %x, %v after the same call", again, e)
	}
	clear(x.Words)
	clear(x.Labels)
	if again, e := label.Lift(b); e != api.OK || !same(again, before) || !bytes.Equal(b, code(words...)) {
		t.Errorf("Lift: %s, %v after the same call", show(again), e)
	}
}
