package label

import (
	"bytes"

	"inlay/api"
	"inlay/inst"
)

const (
	numberSize = 2              // bytes of a number in a form
	headSize   = 2 * numberSize // bytes of the numbers of words and of labels
	byteBits   = 8
)

// Form returns the form of x, which must be right.
func Form(x api.Lifted) []byte {
	b := appendNumber(nil, len(x.Words))
	b = appendNumber(b, len(x.Labels))
	last := 0
	for _, at := range x.Labels {
		b = appendNumber(b, (at-last)/wordSize)
		last = at
	}
	b = append(b, packMarks(x.Marks)...)
	return append(b, inst.Bytes(x.Words)...)
}

// Read returns the right lifted form whose form is b. What stands in b is taken as it is first, because Lower
// and Form can tell best whether it is right, and whether bits that stand for nothing are 0.
func Read(b []byte) (api.Lifted, api.Errno) {
	x, ok := parse(b)
	if !ok || !bytes.Equal(Form(x), b) {
		return api.Lifted{}, api.ErrForm
	}
	if _, e := Lower(x); e != api.OK {
		return api.Lifted{}, api.ErrForm
	}
	return x, api.OK
}

// parse cuts b into its parts. It reports whether b is as long as its two first numbers say.
func parse(b []byte) (api.Lifted, bool) {
	if len(b) < headSize {
		return api.Lifted{}, false
	}
	n, k := number(b), number(b[numberSize:])
	marksAt := headSize + numberSize*k
	wordsAt := marksAt + markBytes(n)
	if len(b) != wordsAt+wordSize*n {
		return api.Lifted{}, false
	}
	words, e := inst.Words(b[wordsAt:])
	marks := unpackMarks(b[marksAt:wordsAt], n)
	return api.Lifted{Words: words, Marks: marks, Labels: readLabels(b[headSize:marksAt])}, e == api.OK
}

// readLabels adds up the distances between labels.
func readLabels(b []byte) []int {
	var l []int
	at := 0
	for ; len(b) > 0; b = b[numberSize:] {
		at += wordSize * number(b)
		l = append(l, at)
	}
	return l
}

// markBytes returns how many bytes the marks of n words need.
func markBytes(n int) int {
	return (n + byteBits - 1) / byteBits
}

func packMarks(marks []bool) []byte {
	b := make([]byte, markBytes(len(marks)))
	for i, marked := range marks {
		if marked {
			b[i/byteBits] |= 1 << (i % byteBits)
		}
	}
	return b
}

func unpackMarks(b []byte, n int) []bool {
	marks := make([]bool, n)
	for i := range marks {
		marks[i] = b[i/byteBits]>>(i%byteBits)&1 == 1
	}
	return marks
}

func appendNumber(b []byte, n int) []byte {
	return append(b, byte(n>>byteBits), byte(n))
}

// number returns the number that the first bytes of b are.
func number(b []byte) int {
	return int(b[0])<<byteBits | int(b[1])
}
