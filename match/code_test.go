package match_test

import (
	"math/rand/v2"
	"slices"
	"testing"

	"inlay/api"
	"inlay/label"
	"inlay/match"
	"inlay/sample"
)

// formOf returns the form of the lifted form of code.
func formOf(t *testing.T, b []byte) []byte {
	t.Helper()
	x, e := label.Lift(b)
	if e != api.OK {
		t.Fatalf("Lift of %d bytes: error %d", len(b), e)
	}
	return label.Form(x)
}

// movedOf returns the code b with words 0 put in.
func movedOf(t *testing.T, b []byte, at, by int) []byte {
	t.Helper()
	moved, e := label.Moved(b, at, by)
	if e != api.OK {
		t.Fatalf("Moved of %d bytes at %d by %d: error %d", len(b), at, by, e)
	}
	return moved
}

// eachCode gives pairs of code to f: ones without much in common, ones that have moved, and ones that are alike.
func eachCode(t *testing.T, f func(old, new []byte)) {
	r := rand.New(rand.NewPCG(7, 7))
	for n := range 60 {
		old := sample.Code(r.IntN, n)
		f(old, old)
		f(old, sample.Code(r.IntN, r.IntN(60)))
		f(old, movedOf(t, old, r.IntN(n+1), r.IntN(20)))
		f(old, slices.Concat(old[n/2*4:], old[:n/2*4]))
	}
	for _, n := range []int{500, 5000, 12000} {
		old := sample.Code(r.IntN, n)
		f(old, movedOf(t, old, n/3, 1))
		f(old, slices.Concat(make([]byte, 4), old))
	}
}

// P7.1 (G2), P7.2: what Plain returns for the forms, as a patch of lifted code.
func TestCode(t *testing.T) {
	eachCode(t, func(old, new []byte) {
		p, e := match.Code(old, new)
		if e != api.OK {
			t.Fatalf("Code of %d bytes to %d: error %d", len(old), len(new), e)
		}
		check(t, old, new, p, true)
		want, e := match.Plain(formOf(t, old), formOf(t, new))
		want.Lifted = true
		if e != api.OK || !sample.Same(p, want) {
			t.Fatalf("Code of %x to %x: %v, want %v", old, new, p, want)
		}
	})
}

// P7.1 (G2): the least cost from form to form.
func TestCostsOfCode(t *testing.T) {
	eachCode(t, func(old, new []byte) {
		if len(new) > 200 {
			return
		}
		if got, want := costOfCode(t, old, new), leastOf(formOf(t, old), formOf(t, new)); got != want {
			t.Fatalf("Code of %x to %x: cost %d, want %d", old, new, got, want)
		}
	})
}

// P7.5: the number of words is rounded up, as that of the bytes for marks is.
func TestMovedCode(t *testing.T) {
	check := func(b []byte, at, by int) {
		moved := movedOf(t, b, at, by)
		words := len(moved) / 4
		if got, most := costOfCode(t, b, moved), 30+(words+7)/8; got > most {
			t.Fatalf("%x with %d words 0 at %d: cost %d, at most %d is right", b, by, at, got, most)
		}
	}
	r := rand.New(rand.NewPCG(7, 8))
	for n := range 70 {
		for range 6 {
			check(sample.Code(r.IntN, n), r.IntN(n+1), r.IntN(70))
		}
	}
	for _, n := range []int{250, 2000} {
		b := sample.Code(r.IntN, n)
		for _, at := range []int{0, 1, n / 3, n} {
			for _, by := range []int{0, 1, 8, 9, 1000} {
				check(b, at, by)
			}
		}
	}
	check(sample.Code(r.IntN, 12000), 5000, 3)
}

// P7.5: moved code whose patch costs as much as it may. All bytes of the marks change, and both bytes of the distance
// of a label, which grows from 255 words to 256.
func TestCodeMovedAtTheGreatestCost(t *testing.T) {
	r := rand.New(rand.NewPCG(7, 10))
	const words = 320
	targets := []int{0, 1, 2, 3, 258}
	for i := 259; i < words; i++ {
		if r.IntN(2) == 0 {
			targets = append(targets, i)
		}
	}
	b := sample.Text(r.IntN, 4*words, "\x01\x02\x03\x04") // no word has a target
	for i := range words {
		if distance := targets[r.IntN(len(targets))] - i; r.IntN(2) == 0 {
			copy(b[4*i:], []byte{7, byte(i % 16), byte(distance >> 8), byte(distance)})
		}
	}
	if got := costOfCode(t, b, movedOf(t, b, 5, 1)); got != 30+41 {
		t.Errorf("cost %d, want 71", got)
	}
}

// P7.1 (G3), P7.6: the cheaper patch, and that of Plain if both cost as much as each other.
func TestBest(t *testing.T) {
	seen := map[string]int{}
	eachCode(t, func(old, new []byte) {
		plain, code := costOfPlain(t, old, new), costOfCode(t, old, new)
		want, e := match.Plain(old, new)
		what := "plain"
		switch {
		case code < plain:
			what = "code"
			want, e = match.Code(old, new)
		case code == plain:
			what = "equal"
		}
		seen[what]++
		got, f := match.Best(old, new)
		if e != api.OK || f != api.OK || !sample.Same(got, want) {
			t.Fatalf("costs %d and %d: error %d, %v, want %v", plain, code, f, got, want)
		}
		if cost := check(t, old, new, got, code < plain); cost != min(plain, code) {
			t.Fatalf("costs %d and %d: Best costs %d", plain, code, cost)
		}
	})
	if seen["plain"] < 10 || seen["code"] < 10 || seen["equal"] < 10 {
		t.Errorf("the numbers of cases are %v", seen)
	}
}

// branches returns code of n words, with as many branches, each of which has a target of its own.
func branches(n, linked int) []byte {
	b := make([]byte, 4*n)
	for i := range linked {
		b[4*i] = 7
	}
	return b
}

// P7.1 (G2, G3): what is no code, and code whose form is too long. The longest form of this code has 65536 bytes: 4,
// 2 for a label, 1986 for the marks of 15886 words, and 63544 for these.
func TestRefusedCode(t *testing.T) {
	code := sample.Code(rand.New(rand.NewPCG(7, 9)).IntN, 10)
	longest, longer := branches(15886, 1), branches(15886, 2)
	if n, k := len(formOf(t, longest)), len(formOf(t, longer)); n != 65536 || k != 65538 {
		t.Fatalf("the forms have %d and %d bytes", n, k)
	}
	for what, c := range map[string]struct {
		old, new []byte
		want     api.Errno
	}{
		"nothing":                           {nil, nil, api.OK},
		"code of nothing":                   {nil, code, api.OK},
		"the longest form":                  {longest, longest, api.OK},
		"nothing of the longest form":       {longest, nil, api.OK},
		"the longest form, of code":         {code, longest, api.OK},
		"a byte too few":                    {code[:39], code, api.ErrLabel},
		"a byte too much":                   {code, append(slices.Clone(code), 0), api.ErrLabel},
		"two bytes":                         {code[:2], nil, api.ErrLabel},
		"both no code":                      {code[:3], code[:5], api.ErrLabel},
		"a longer form":                     {longer, code, api.ErrBig},
		"the longest form, of a longer one": {longer, longest, api.ErrBig},
		"a longer form of it":               {longest, longer, api.ErrBig},
		"both longer":                       {longer, longer, api.ErrBig},
		"the longest code":                  {make([]byte, api.MaxImage), code, api.ErrBig},
		"the longest code, to make":         {code, make([]byte, api.MaxImage), api.ErrBig},
		"a longer form, and no code":        {longer, code[:7], api.ErrLabel},
		"no code, and a longer form":        {code[:7], longer, api.ErrLabel},
		"a word more than code has":         {make([]byte, api.MaxImage+4), code, api.ErrLabel},
		"the same, to make":                 {code, make([]byte, api.MaxImage+4), api.ErrLabel},
		"the same, of a longer form":        {longer, make([]byte, api.MaxImage+4), api.ErrLabel},
		"a longer form of that":             {make([]byte, api.MaxImage+4), longer, api.ErrLabel},
	} {
		p, e := match.Code(c.old, c.new)
		if e != c.want || e != api.OK && !sample.Same(p, api.Patch{}) {
			t.Errorf("%s: error %d, want %d", what, e, c.want)
		}
		if e == api.OK {
			check(t, c.old, c.new, p, true)
			continue
		}
		plain, f := match.Plain(c.old, c.new)
		if best, e := match.Best(c.old, c.new); e != f || !sample.Same(best, plain) {
			t.Errorf("%s: Best: error %d, want that of Plain, %d, or another patch", what, e, f)
		}
	}
}
