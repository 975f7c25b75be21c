package inverse_test

import (
	"bytes"
	"math/rand/v2"
	"slices"
	"testing"

	"inlay/api"
	"inlay/inverse"
	"inlay/label"
	"inlay/match"
	"inlay/patch"
	"inlay/sample"
)

// The operations in tables.
var copyOf, diff, run, lit = sample.Copy, sample.Diff, sample.Run, sample.Lit

// Patches of them.
var of, lifted = sample.Of, sample.Lifted

// P10.1 (J1, J2): the example of the chapter, and others that are worked out by hand.
func TestExamples(t *testing.T) {
	for what, c := range map[string]struct {
		old     string
		p, want api.Patch
		lost    []api.Range
	}{
		"two pieces, and lost bytes":              {"abcdef", of(6, 4, copyOf(2, 2), copyOf(0, 2)), of(4, 6, copyOf(2, 2), copyOf(0, 2), lit('e', 'f')), []api.Range{{From: 4, To: 6}}},
		"nothing changes":                         {"abc", of(3, 3, copyOf(0, 3)), of(3, 3, copyOf(0, 3)), nil},
		"nothing changes, in pieces":              {"abc", of(3, 3, copyOf(0, 1), diff(1, 0), copyOf(2, 1)), of(3, 3, copyOf(0, 3)), nil},
		"something is added":                      {"abcde", of(5, 5, diff(0, 1, 2, 255, 128, 0)), of(5, 5, diff(0, 255, 254, 1, 128, 0)), nil},
		"a byte many times":                       {"a", of(1, 3, copyOf(0, 1), copyOf(0, 1), copyOf(0, 1)), of(3, 1, copyOf(0, 1)), nil},
		"changed at the least place":              {"a", of(1, 2, diff(0, 5), copyOf(0, 1)), of(2, 1, diff(0, 251)), nil},
		"changed at another place":                {"a", of(1, 2, copyOf(0, 1), diff(0, 5)), of(2, 1, copyOf(0, 1)), nil},
		"the least places, in three pieces":       {"abcd", of(4, 6, copyOf(1, 2), copyOf(0, 4)), of(6, 4, copyOf(2, 1), copyOf(0, 2), copyOf(5, 1)), nil},
		"all bytes in the other order":            {"abc", of(3, 3, copyOf(2, 1), copyOf(1, 1), copyOf(0, 1)), of(3, 3, copyOf(2, 1), copyOf(1, 1), copyOf(0, 1)), nil},
		"bytes that are put in are left out":      {"ab", of(2, 7, lit(8, 9), copyOf(0, 2), run(7, 3)), of(7, 2, copyOf(2, 2)), nil},
		"bytes put in between":                    {"abcd", of(4, 6, copyOf(0, 2), lit(8, 9), copyOf(2, 2)), of(6, 4, copyOf(0, 2), copyOf(4, 2)), nil},
		"everything is lost":                      {"abc", of(3, 0), of(0, 3, lit('a', 'b', 'c')), []api.Range{{From: 0, To: 3}}},
		"everything is lost, and bytes are there": {"abc", of(3, 2, run(9, 2)), of(2, 3, lit('a', 'b', 'c')), []api.Range{{From: 0, To: 3}}},
		"equal bytes are lost":                    {"aaaaa", of(5, 1, copyOf(2, 1)), of(1, 5, run('a', 2), copyOf(0, 1), run('a', 2)), []api.Range{{From: 0, To: 2}, {From: 3, To: 5}}},
		"a lost byte that is put in":              {"ab", of(2, 2, lit('a'), copyOf(1, 1)), of(2, 2, lit('a'), copyOf(1, 1)), []api.Range{{From: 0, To: 1}}},
		"lost bytes 0":                            {"\x00\x00\x00", of(3, 0), of(0, 3, run(0, 3)), []api.Range{{From: 0, To: 3}}},
		"the last byte is lost":                   {"abc", of(3, 2, copyOf(0, 2)), of(2, 3, copyOf(0, 2), lit('c')), []api.Range{{From: 2, To: 3}}},
		"every other byte is lost":                {"abcde", of(5, 2, copyOf(3, 1), copyOf(1, 1)), of(2, 5, lit('a'), copyOf(1, 1), lit('c'), copyOf(0, 1), lit('e')), []api.Range{{From: 0, To: 1}, {From: 2, To: 3}, {From: 4, To: 5}}},
		"the Diff is cheaper":                     {"abc", of(3, 3, copyOf(0, 1), diff(1, 4), copyOf(2, 1)), of(3, 3, diff(0, 0, 252, 0)), nil},
		"something of nothing":                    {"", of(0, 2, lit(1, 2)), of(2, 0), nil},
		"nothing of nothing":                      {"", of(0, 0), of(0, 0), nil},
	} {
		old := []byte(c.old)
		if got, e := check(t, old, c.p); e != api.OK || !sample.Same(got, c.want) {
			t.Errorf("%s: %v, error %d, want %v", what, got, e, c.want)
		}
		if got := checkLost(t, c.p); !slices.Equal(got, c.lost) {
			t.Errorf("%s: lost are %v, want %v", what, got, c.lost)
		}
		if got := checkLost(t, lifted(c.p)); !slices.Equal(got, c.lost) {
			t.Errorf("%s, lifted: lost are %v, want %v", what, got, c.lost)
		}
	}
}

// The form of this code has its numbers of words and labels, the label 4 (divided by 4), marks, and a jump to the label 0.
var code = []byte{5, 0, 0, 1, 1, 2, 3, 4}

const codeForm = "\x00\x02\x00\x01\x00\x01\x01\x05\x00\x00\x00\x01\x02\x03\x04"

// P10.1 (J1), P10.2: patches for the form of code, worked out by hand.
func TestLiftedExamples(t *testing.T) {
	if form := inputFor(code, true); string(form) != codeForm {
		t.Fatalf("the form of the code is %x", form)
	}
	for what, c := range map[string]struct {
		p, want api.Patch
		made    []byte
	}{
		"nothing changes":       {of(15, 15, copyOf(0, 15)), of(15, 15, copyOf(0, 15)), code},
		"two bytes are lost":    {of(15, 15, copyOf(0, 13), run(9, 2)), of(15, 15, copyOf(0, 13), lit(3, 4)), []byte{5, 0, 0, 1, 1, 2, 9, 9}},
		"registers are changed": {of(15, 15, copyOf(0, 12), diff(12, 1, 2, 3)), of(15, 15, copyOf(0, 12), diff(12, 255, 254, 253)), []byte{5, 0, 0, 1, 1, 3, 5, 7}},
		"a word goes":           {of(15, 9, lit(0, 1, 0, 0, 0), copyOf(11, 4)), of(9, 15, lit(0, 2, 0, 1, 0, 1, 1, 5, 0, 0, 0), copyOf(5, 4)), []byte{1, 2, 3, 4}},
		"everything goes":       {of(15, 4, run(0, 4)), of(4, 15, lit([]byte(codeForm)...)), nil},
	} {
		p := lifted(c.p)
		if made := sample.Must(patch.Apply(code, p)); !bytes.Equal(made, c.made) {
			t.Fatalf("%s: %v makes %x, want %x", what, p, made, c.made)
		}
		got, e := check(t, code, p)
		if e != api.OK || !sample.Same(got, lifted(c.want)) {
			t.Errorf("%s: %v, error %d, want %v", what, got, e, lifted(c.want))
		}
		if back, e := patch.Apply(c.made, got); e != api.OK || !bytes.Equal(back, code) {
			t.Errorf("%s: back it is %x, error %d, want %x", what, back, e, code)
		}
	}
}

// P10.1 (J1, J2): all short patches, for all short images.
func TestShortPatches(t *testing.T) {
	for _, p := range sample.ShortPatches() {
		checkLost(t, p)
		sample.EachText(3, "\x00\x01\xff", func(old []byte) {
			if _, e := check(t, old, p); (e == api.OK) != (len(old) == p.In) {
				t.Fatalf("Invert of %x, %v: error %d", old, p, e)
			}
			check(t, old, lifted(p))
		})
	}
}

// eachPatch calls f with random patches that are not lifted ones, and images for them.
func eachPatch(f func(old []byte, p api.Patch)) {
	r := rand.New(rand.NewPCG(10, 1))
	of := func(in, out int) {
		f(sample.Kinds(r.IntN, in, 1+r.IntN(256)), sample.Patch(r.IntN, in, out))
	}
	for most := range 50 {
		for range 60 {
			of(r.IntN(most+1), r.IntN(3*most+1))
		}
	}
	long := []int{0, 1, 1000, 65535, 65536}
	for _, in := range long {
		for _, out := range long {
			of(in, out)
		}
	}
}

// eachLifted calls f with patches of lifted code, and code for them.
func eachLifted(f func(old []byte, p api.Patch)) {
	r := rand.New(rand.NewPCG(10, 2))
	for n := range 60 {
		old := sample.Code(r.IntN, n)
		for _, made := range [][]byte{
			old,
			sample.Code(r.IntN, r.IntN(60)),
			sample.Must(label.Moved(old, r.IntN(n+1), r.IntN(10))),
			slices.Concat(old[n/2*4:], old[:n/2*4]),
			old[n/3*4:],
			slices.Concat(old, old),
		} {
			p := sample.Must(match.Code(old, made))
			f(old, p)
			p.Ops = sample.AnyOps(r.IntN, sample.Must(patch.Symbols(p)))
			f(old, p)
		}
	}
}

// P10.1 (J1, J2): random patches.
func TestPatches(t *testing.T) {
	compare := func(old []byte, p api.Patch) {
		check(t, old, p)
		checkLost(t, p)
	}
	eachPatch(compare)
	eachLifted(compare)
}

// P10.1 (J1), P1: patches that are not right, for images that fit them, and others.
func TestWrongPatches(t *testing.T) {
	for _, p := range sample.WrongPatches() {
		for _, p := range []api.Patch{p, lifted(p)} {
			for _, old := range [][]byte{nil, {1, 2, 3}, {1, 2, 3, 4}, make([]byte, 65536), make([]byte, 65537)} {
				if got, e := check(t, old, p); e != api.ErrOp || !sample.Same(got, api.Patch{}) {
					t.Errorf("Invert of %d bytes, %v: %v, error %d, want ErrOp", len(old), p, got, e)
				}
			}
			if l, e := inverse.Lost(p); e != api.ErrOp || len(l) > 0 {
				t.Errorf("Lost of %v: %v, error %d, want ErrOp", p, l, e)
			}
		}
	}
}

// spaced returns a patch for in bytes that makes n bytes, of which each but the first one stands at the second place
// after the one before. The inverse puts the bytes in between.
func spaced(in, n int) api.Patch {
	p := of(in, n)
	for i := range n {
		p.Ops = append(p.Ops, copyOf(2*i, 1))
	}
	return p
}

// everyOtherWord returns a patch that makes code of every other one of 2 n words, of which none has a target, and the
// rest of whose form has these marks.
func everyOtherWord(n int, marks byte) api.Patch {
	head := 4 + (2*n+7)/8
	p := of(head+8*n, 4+(n+7)/8+4*n, lit(byte(n/256), byte(n), 0, 0), run(marks, (n+7)/8))
	for i := range n {
		p.Ops = append(p.Ops, copyOf(head+8*i, 4))
	}
	return lifted(p)
}

// P10.1 (J1), P1: which error is first, and how many operations an inverse has at most.
func TestErrors(t *testing.T) {
	n := 2049
	for what, c := range map[string]struct {
		old  []byte
		p    api.Patch
		want api.Errno
		ops  int
	}{
		"the image is too short":                  {[]byte("ab"), patch.Whole(3), api.ErrLength, 0},
		"the image is too long":                   {[]byte("abcd"), patch.Whole(3), api.ErrLength, 0},
		"the image is too long for any patch":     {make([]byte, 65537), patch.Whole(65536), api.ErrLength, 0},
		"an image, but the patch is for none":     {[]byte("a"), of(0, 0), api.ErrLength, 0},
		"no image, but the patch is for one":      {nil, of(1, 0), api.ErrLength, 0},
		"a lifted patch, but no code":             {[]byte("abc"), lifted(patch.Whole(3)), api.ErrLabel, 0},
		"no code, and another length":             {[]byte("abc"), lifted(patch.Whole(9)), api.ErrLabel, 0},
		"too long for code":                       {make([]byte, 65540), lifted(patch.Whole(65536)), api.ErrLabel, 0},
		"code, but a patch for another form":      {code, lifted(patch.Whole(14)), api.ErrLength, 0},
		"a patch for as many bytes as code has":   {code, lifted(patch.Whole(8)), api.ErrLength, 0},
		"another form, and no form comes out":     {code, lifted(of(14, 1, run(0, 1))), api.ErrLength, 0},
		"no form comes out":                       {code, lifted(of(15, 1, run(0, 1))), api.ErrLabel, 0},
		"nothing comes out, which is no form":     {code, lifted(of(15, 0)), api.ErrLabel, 0},
		"a form that is not the one of code":      {code, lifted(of(15, 15, copyOf(0, 5), lit(2), copyOf(6, 9))), api.ErrLabel, 0},
		"nothing, which has a form":               {nil, lifted(of(4, 4, copyOf(0, 4))), api.OK, 1},
		"no code, but the patch is no lifted one": {[]byte("abc"), of(3, 1, copyOf(0, 1)), api.OK, 2},
		"the longest image":                       {make([]byte, 65536), patch.Whole(65536), api.OK, 1},
		"as many operations as there may be":      {make([]byte, 4096), spaced(4096, 2048), api.OK, 4096},
		"the same, with a longer piece":           {make([]byte, 4097), spaced(4097, 2048), api.OK, 4096},
		"one operation too many":                  {make([]byte, 2*n-1), spaced(2*n-1, n), api.ErrBig, 0},
		"many operations too many":                {make([]byte, 8192), spaced(8192, 4096), api.ErrBig, 0},
		"too many, and the image is too short":    {make([]byte, 2*n-2), spaced(2*n-1, n), api.ErrLength, 0},
		"every other word":                        {make([]byte, 8*1000), everyOtherWord(1000, 0), api.OK, 2002},
		"too many of lifted code":                 {make([]byte, 8*n), everyOtherWord(n, 0), api.ErrBig, 0},
		"too many, and no form comes out":         {make([]byte, 8*n), everyOtherWord(n, 255), api.ErrLabel, 0},
		"too many, and no code":                   {make([]byte, 8*n+1), everyOtherWord(n, 0), api.ErrLabel, 0},
		"too many, and code with another form":    {make([]byte, 8*n+4), everyOtherWord(n, 0), api.ErrLength, 0},
	} {
		got, e := check(t, c.old, c.p)
		if e != c.want || len(got.Ops) != c.ops || e != api.OK && !sample.Same(got, api.Patch{}) {
			t.Errorf("%s: %d operations, error %d, want %d, error %d", what, len(got.Ops), e, c.ops, c.want)
		}
		checkLost(t, c.p)
	}
}

// J3, P2: the results are memory of their own, and so are the data of each operation.
func TestNothingIsModified(t *testing.T) {
	for _, c := range []struct {
		old []byte
		p   api.Patch
	}{
		{[]byte("abcdefghijxxx"), of(13, 12, diff(3, 1, 2), copyOf(6, 1), run(8, 5), diff(2, 7), lit(1, 2, 3))},
		{code, lifted(of(15, 15, lit(0, 2, 0, 1), copyOf(4, 7), diff(11, 1), copyOf(12, 1), lit(8, 9)))},
	} {
		old, p := bytes.Clone(c.old), sample.Clone(c.p)
		want := mustInvert(t, c.old, c.p)
		lost := slices.Clone(checkLost(t, c.p))
		if len(want.Ops) < 4 || len(lost) < 2 {
			t.Fatalf("the inverse %v has too few operations, or too little is lost: %v", want, lost)
		}
		if !sample.OwnMemory(func() []api.Patch { return []api.Patch{mustInvert(t, c.old, c.p)} }) {
			t.Errorf("of %x, %v: the memory is shared", c.old, c.p)
		}
		for range 2 {
			l, _ := inverse.Lost(c.p)
			if !slices.Equal(l, lost) || !sample.Same(c.p, p) || !bytes.Equal(c.old, old) {
				t.Fatalf("%v is lost, of %x, %v", l, c.old, c.p)
			}
			clear(l[:cap(l)])
		}
	}
}
