package coder_test

import (
	"bytes"
	"math/big"
	"slices"
	"sort"
)

// What follows is written from the chapter alone, the plainest way, so that it is a second opinion.

// codeOf returns the code of a text. The list and low are one number here, so that nothing is carried.
func codeOf(model int, text []byte) []byte {
	tables := map[int][]int{}
	number, bytesOfNumber, width := new(big.Int), 4, 1<<32-1
	for i, b := range text {
		which := 0
		if model == 2 && i > 0 {
			which = int(text[i-1])
		}
		if tables[which] == nil {
			tables[which] = slices.Repeat([]int{1}, 256)
		}
		counts := tables[which]
		r := width / sum(counts)
		number.Add(number, big.NewInt(int64(r*sum(counts[:b]))))
		width = r * counts[b]
		for width < 1<<24 {
			number.Lsh(number, 8)
			bytesOfNumber++
			width *= 256
		}
		if model > 0 {
			counts[b] += 32
		}
		if sum(counts) > 65536 {
			for k, c := range counts {
				counts[k] = (c + 1) / 2
			}
		}
	}
	return bytes.TrimRight(number.FillBytes(make([]byte, bytesOfNumber)), "\x00")
}

func sum(l []int) int {
	n := 0
	for _, x := range l {
		n += x
	}
	return n
}

// textOf returns the text of n bytes that has this code, and whether there is one. Each byte of the text is the
// greatest one with which no code is greater.
func textOf(model int, code []byte, n int) ([]byte, bool) {
	text := make([]byte, n)
	for i := range text {
		isGreater := func(b int) bool {
			text[i] = byte(b)
			return bytes.Compare(codeOf(model, text), code) > 0
		}
		text[i] = byte(max(0, sort.Search(256, isGreater)-1))
	}
	return text, bytes.Equal(codeOf(model, text), code)
}
