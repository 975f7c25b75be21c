package label_test

import (
	"bytes"
	"math"
	"math/rand/v2"
	"slices"
	"testing"

	"inlay/api"
	"inlay/label"
)

// P3.1 (C2), P3.2
func TestFormAndRead(t *testing.T) {
	for what, c := range map[string]struct {
		x    api.Lifted
		form []byte
	}{
		"nothing":             {api.Lifted{}, []byte{0, 0, 0, 0}},
		"the example":         {lifted("-xx", []uint32{0x01010203, 0x05000000, 0x07050001}, 0, 8), []byte{0, 3, 0, 2, 0, 0, 0, 2, 6, 1, 1, 2, 3, 5, 0, 0, 0, 7, 5, 0, 1}},
		"a word":              {lifted("-", []uint32{0xFEDCBA98}), []byte{0, 1, 0, 0, 0, 0xFE, 0xDC, 0xBA, 0x98}},
		"a label that is 0":   {lifted("x", []uint32{0x06000000}, 0), []byte{0, 1, 0, 1, 0, 0, 1, 6, 0, 0, 0}},
		"a label that is 4":   {lifted("x-", []uint32{0x08010000, 0}, 4), []byte{0, 2, 0, 1, 0, 1, 1, 8, 1, 0, 0, 0, 0, 0, 0}},
		"the mark of word 7":  {lifted("-------x", []uint32{0, 0, 0, 0, 0, 0, 0, 0x05000000}, 28), slices.Concat([]byte{0, 8, 0, 1, 0, 7, 128}, make([]byte, 28), []byte{5, 0, 0, 0})},
		"the mark of word 8":  {lifted("--------x", []uint32{0, 0, 0, 0, 0, 0, 0, 0, 0x05000000}, 32), slices.Concat([]byte{0, 9, 0, 1, 0, 8, 0, 1}, make([]byte, 32), []byte{5, 0, 0, 0})},
		"eight words":         {lifted("--------", make([]uint32, 8)), append([]byte{0, 8, 0, 0, 0}, make([]byte, 32)...)},
		"300 words":           {api.Lifted{Words: make([]uint32, 300), Marks: make([]bool, 300)}, append([]byte{1, 44, 0, 0}, make([]byte, 38+1200)...)},
		"a label of word 299": {farLabel(), slices.Concat([]byte{1, 44, 0, 1, 1, 43, 1}, make([]byte, 37), []byte{5, 0, 0, 0}, make([]byte, 1196))},
	} {
		if got := label.Form(c.x); !bytes.Equal(got, c.form) {
			t.Errorf("%s: Form: %v, want %v", what, got, c.form)
		}
		if got, e := label.Read(c.form); e != api.OK || !same(got, c.x) {
			t.Errorf("%s: Read: %s, %v, want %s", what, show(got), e, show(c.x))
		}
	}
}

// farLabel returns the lifted form of 300 words, the first of which is a jump to the last one.
func farLabel() api.Lifted {
	x := api.Lifted{Words: make([]uint32, 300), Marks: make([]bool, 300), Labels: []int{4 * 299}}
	x.Words[0], x.Marks[0] = 0x05000000, true
	return x
}

// P3.1 (C2), P3.2, P3.6
func TestFormsAreWhatTheChapterSays(t *testing.T) {
	check := func(words []uint32) {
		x := liftedOf(words)
		b := label.Form(x)
		if !bytes.Equal(b, formOf(x)) {
			t.Fatalf("Form of %s: %x, want %x", show(x), b, formOf(x))
		}
		if want := 4 + 2*len(x.Labels) + 4*len(words) + (len(words)+7)/8; len(b) != want {
			t.Fatalf("Form of %s: %d bytes, want %d", show(x), len(b), want)
		}
		if again, e := label.Read(b); e != api.OK || !same(again, x) {
			t.Fatalf("Read of %x: %s, %v, want %s", b, show(again), e, show(x))
		}
	}
	eachCode(check)
	check(allLinked())
}

// P3.6: for all numbers of words up to some, and all numbers of labels that they can have.
func TestSizes(t *testing.T) {
	for n := range 41 {
		for k := range n + 1 {
			words := make([]uint32, n)
			for i := range k {
				words[i] = 0x05000000
			}
			x, e := label.Lift(code(words...))
			if want := 4 + 2*k + 4*n + (n+7)/8; e != api.OK || len(x.Labels) != k || len(label.Form(x)) != want {
				t.Errorf("%d words and %d labels: %d bytes, %v, want %d", n, k, len(label.Form(x)), e, want)
			}
		}
	}
	x, _ := label.Lift(code(allLinked()...))
	if n := len(label.Form(x)); n != 4+32768+65536+2048 {
		t.Errorf("the longest form has %d bytes", n)
	}
}

// checkRead compares Read with the conditions of the chapter, and reports whether b is a form.
func checkRead(t *testing.T, b []byte) bool {
	t.Helper()
	x, e := label.Read(b)
	want, ok := readOf(b)
	if !ok {
		if e != api.ErrForm || !isEmpty(x) {
			t.Fatalf("Read of %x: %s, %v, want ErrForm", b, show(x), e)
		}
		return false
	}
	if e != api.OK || !same(x, want) {
		t.Fatalf("Read of %x: %s, %v, want %s", b, show(x), e, show(want))
	}
	if !bytes.Equal(label.Form(x), b) {
		t.Fatalf("Read accepts %x, but the form is %x", b, label.Form(x))
	}
	if _, e := label.Lower(x); e != api.OK {
		t.Fatalf("Read accepts %x, which is not right: %v", b, e)
	}
	return true
}

// P3.2, P3.7, P3.8: forms with a bit changed, cut off at each length, and with bytes put in.
func TestDamagedForms(t *testing.T) {
	r := rand.New(rand.NewPCG(3, 2))
	var accepted tally
	check := func(b []byte) { accepted.count(checkRead(t, b)) }
	for n := range 20 {
		for range 4 {
			b := formOf(liftedOf(someWords(r, n)))
			for i := range 8 * len(b) {
				damaged := bytes.Clone(b)
				damaged[i/8] ^= 1 << (i % 8)
				check(damaged)
			}
			for i := range b {
				check(b[:i])
				check(b[i:])
				check(slices.Insert(bytes.Clone(b), i, 0))
				check(slices.Delete(bytes.Clone(b), i, i+1))
			}
			for more := 1; more <= 8; more++ {
				check(append(bytes.Clone(b), make([]byte, more)...))
			}
		}
	}
	accepted.check(t, 500, 5000)
}

// P3.2, P3.7: all marks and distances of labels, with and without bits that stand for nothing.
func TestReadAcceptsFormsOnly(t *testing.T) {
	var accepted tally
	words := []uint32{0, 0x05000000, 0x06000001, 0x07030000, 0x08030000}
	for marks := range 256 {
		for first := range byte(4) {
			for _, a := range words {
				for _, b := range words {
					for _, form := range [][]byte{
						slices.Concat([]byte{0, 2, 0, 0, byte(marks)}, code(a, b)),
						slices.Concat([]byte{0, 2, 0, 1, 0, first, byte(marks)}, code(a, b)),
						slices.Concat([]byte{0, 2, 0, 2, 0, first, 0, 0, byte(marks)}, code(a, b)),
						slices.Concat([]byte{0, 2, 0, 2, 0, first, 0, 1, byte(marks)}, code(a, b)),
					} {
						accepted.count(checkRead(t, form))
					}
				}
			}
		}
	}
	accepted.check(t, 20, 10000)
}

// P3.7, P3.8, P1
func TestReadRefuses(t *testing.T) {
	for what, b := range map[string][]byte{
		"nothing":                               nil,
		"three bytes":                           {0, 0, 0},
		"a byte too much":                       {0, 0, 0, 0, 0},
		"no words":                              {0, 1, 0, 0, 0},
		"a word of three bytes":                 {0, 1, 0, 0, 0, 1, 0, 0},
		"a word too much":                       {0, 1, 0, 0, 0, 1, 0, 0, 0, 1, 0, 0, 0},
		"no byte of marks":                      {0, 1, 0, 0, 1, 0, 0, 0},
		"a byte of marks too much":              {0, 1, 0, 0, 0, 0, 1, 0, 0, 0},
		"a bit that stands for nothing":         {0, 1, 0, 0, 2, 1, 0, 0, 0},
		"the last such bit":                     {0, 1, 0, 0, 128, 1, 0, 0, 0},
		"such a bit beside a mark":              {0, 1, 0, 1, 0, 0, 3, 5, 0, 0, 0},
		"a linked word that is not marked":      {0, 1, 0, 0, 0, 5, 0, 0, 0},
		"a label that is not used":              {0, 1, 0, 1, 0, 0, 0, 1, 0, 0, 0},
		"a label after the code":                {0, 1, 0, 1, 0, 1, 1, 5, 0, 0, 0},
		"a label far after the code":            {0, 1, 0, 1, 255, 255, 1, 5, 0, 0, 0},
		"equal labels":                          {0, 2, 0, 2, 0, 0, 0, 0, 3, 5, 0, 0, 0, 5, 0, 0, 1},
		"an index that is too great":            {0, 1, 0, 1, 0, 0, 1, 5, 0, 0, 1},
		"a marked word without a target":        {0, 1, 0, 1, 0, 0, 1, 1, 0, 0, 0},
		"labels without words":                  {0, 0, 0, 1, 0, 0},
		"more labels than bytes":                {0, 0, 255, 255},
		"more words than bytes":                 {255, 255, 0, 0},
		"more of both":                          {255, 255, 255, 255},
		"numbers whose least byte comes first":  {1, 0, 0, 0, 0, 1, 0, 0, 0},
		"as many bytes as a word more may have": append([]byte{0x40, 0x01, 0, 0}, make([]byte, 2049+4*(maxWords+1))...),
		"the most words":                        append([]byte{255, 255, 0, 0}, make([]byte, 8192+4*65535)...),
		"the most labels":                       append([]byte{0, 0, 255, 255}, make([]byte, 2*65535)...),
	} {
		if x, e := label.Read(b); e != api.ErrForm || !isEmpty(x) {
			t.Errorf("%s: %d words, %v, want ErrForm", what, len(x.Words), e)
		}
	}
	long := append([]byte{0x40, 0, 0, 0}, make([]byte, 2048+4*maxWords)...)
	if x, e := label.Read(long); e != api.OK || len(x.Words) != maxWords {
		t.Errorf("the most words that code has: %d, %v", len(x.Words), e)
	}
}

// P1: the form of what is not right is not specified, but Form ends.
func TestFormEnds(t *testing.T) {
	for _, x := range []api.Lifted{
		{Words: []uint32{0}},
		{Marks: []bool{true, true, true, true, true, true, true, true, true}},
		{Labels: []int{8, 4, -4, math.MaxInt, math.MinInt}},
		{Words: make([]uint32, 70000), Marks: []bool{true}, Labels: make([]int, 70000)},
		lifted("xx", []uint32{0x05FFFFFF}, 1, 1),
	} {
		label.Form(x)
	}
}

// P2 (C4)
func TestFormAndReadModifyNothing(t *testing.T) {
	x := lifted("-xx", []uint32{0x01010203, 0x05000000, 0x07050001}, 0, 8)
	before := clone(x)
	form := label.Form(x)
	b := bytes.Clone(form)
	y, _ := label.Read(form)
	if !same(x, before) || !bytes.Equal(form, b) {
		t.Fatalf("modified: %s, %x", show(x), form)
	}
	clear(y.Words)
	clear(y.Marks)
	clear(y.Labels)
	if again, e := label.Read(form); e != api.OK || !same(again, before) || !bytes.Equal(form, b) {
		t.Errorf("Read: %s, %v after the same call", show(again), e)
	}
	clear(form)
	if !same(x, before) || !bytes.Equal(label.Form(x), b) {
		t.Errorf("Form: %x after the same call", label.Form(x))
	}
}
