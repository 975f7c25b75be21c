package coder_test

import (
	"bytes"
	"math/rand/v2"
	"testing"

	"inlay/api"
	"inlay/coder"
	"inlay/sample"
)

// models are the numbers of all models.
var models = []int{0, 1, 2}

// textsOf returns texts of n bytes, with their descriptions.
func textsOf(n int) map[string][]byte {
	return sample.Texts(rand.New(rand.NewPCG(13, uint64(n))).IntN, n)
}

// checkCode checks what all functions say of a text and its code.
func checkCode(t *testing.T, model int, text, want []byte) {
	t.Helper()
	code, e := coder.Encode(model, text)
	if e != api.OK || !bytes.Equal(code, want) {
		t.Fatalf("model %d: the code of %s is %s, error %d, want %s", model, short(text), short(code), e, short(want))
	}
	if n, e := coder.Size(model, text); e != api.OK || n != len(want) {
		t.Fatalf("model %d: the code of %s has %d bytes, error %d, want %d", model, short(text), n, e, len(want))
	}
	if got, e := coder.Decode(model, want, len(text)); e != api.OK || !bytes.Equal(got, text) {
		t.Fatalf("model %d: the text of %s is %s, error %d, want %s", model, short(want), short(got), e, short(text))
	}
}

// check checks what all functions say of a text in all models, and returns its codes.
func check(t *testing.T, text []byte) [][]byte {
	t.Helper()
	var codes [][]byte
	for _, m := range models {
		codes = append(codes, codeOf(m, text))
		checkCode(t, m, text, codes[m])
	}
	return codes
}

// P13.1 (M1, M2, M3), P13.2: the examples of the chapter, and others that are worked out by hand.
func TestExamples(t *testing.T) {
	for _, c := range []struct {
		models     []int
		text, code []byte
	}{
		{models, nil, nil},
		{models, []byte{0}, nil},
		{models, []byte{0, 0, 0}, nil},
		{models, []byte{1}, []byte{0, 255, 255, 255}},
		{models, []byte{2}, []byte{1, 255, 255, 254}},
		{models, []byte{128}, []byte{127, 255, 255, 128}},
		{models, []byte{255}, []byte{254, 255, 255, 1}},
		{[]int{0}, []byte{0, 1}, []byte{0, 0, 255, 255, 255}},
		// The second byte makes low too great: 1 is added to the byte 0.
		{[]int{0, 2}, []byte{1, 1}, []byte{1, 0, 255, 254, 255}},
		// The second byte has the count 33 of 288, each of which is 14913080 wide.
		{[]int{1}, []byte{1, 1}, []byte{1, 0, 227, 141, 56}},
		// The third one has the same counts, if those after a 1 are others than those after a 0.
		{[]int{2}, []byte{1, 1, 1}, []byte{1, 1, 0, 226, 141, 56}},
		// 1 is added to a list that ends with bytes 255.
		{[]int{0}, []byte{1, 0, 1}, []byte{1, 0, 0, 254, 255, 255}},
		{[]int{0}, []byte{1, 0, 0, 1}, []byte{0, 255, 255, 255, 255, 255, 255}},
		{[]int{0}, []byte{1, 0, 0, 2}, []byte{1, 0, 0, 0, 255, 255, 254}},
	} {
		for _, m := range c.models {
			checkCode(t, m, c.text, c.code)
		}
	}
}

// P13.1 (M1, M2, M3), P13.2: all texts of at most two bytes, and of a few different bytes.
func TestShortTexts(t *testing.T) {
	for a := range 256 {
		check(t, []byte{byte(a)})
		for _, b := range []int{0, 1, a - 1, a, a + 1, 127, 128, 254, 255} {
			check(t, []byte{byte(a), byte(b)})
		}
	}
	sample.EachText(9, "\x00\x01", func(b []byte) { check(t, b) })
	sample.EachText(6, "\x00\x01\xff", func(b []byte) { check(t, b) })
	sample.EachText(4, "\x00\x7f\x80\xfe\xff", func(b []byte) { check(t, b) })
}

// P13.1 (M1, M2, M3), P13.2: texts of each length up to some.
func TestEachLength(t *testing.T) {
	for n := range 150 {
		for _, b := range textsOf(n) {
			check(t, b)
		}
	}
}

// P13.1 (M1, M2), P13.2: the total is 2^16 after 2040 bytes in one table, and is halved after one more.
func TestHalving(t *testing.T) {
	r := rand.New(rand.NewPCG(13, 1))
	for n := 2038; n < 2044; n++ {
		for _, b := range []byte{0, 7, 255} {
			equal := bytes.Repeat([]byte{b}, n)
			check(t, equal)
			// What is behind the equal bytes tells their counts, and those of others.
			for _, kinds := range []int{1, 3, 256} {
				check(t, append(bytes.Clone(equal), sample.Kinds(r.IntN, 20, kinds)...))
			}
			check(t, append(bytes.Clone(equal), b, b+1, b, b, b-1, b, b))
		}
		for _, b := range textsOf(n) {
			check(t, b)
		}
	}
}

// P13.1 (M1, M2, M3), P13.2, P1: long texts, up to the longest, whose counts are halved many times.
func TestLongTexts(t *testing.T) {
	for _, n := range []int{4096, 9000} {
		for _, b := range textsOf(n) {
			check(t, b)
		}
	}
	for _, n := range []int{api.MaxImage - 1, api.MaxImage} {
		texts := textsOf(n)
		for _, what := range []string{"bytes 255", "one other at the end", "Fibonacci", "256 kinds"} {
			check(t, texts[what])
		}
	}
}

// P13.1 (M1), P13.2: texts whose list is 0, 255, 255, .. until their last byte, which adds 1 to it.
func TestLongCarries(t *testing.T) {
	for _, m := range models {
		for n := 4; n < 60; n++ {
			// The code 1 is in the part of this text, but its low is less.
			text, _ := textOf(m, []byte{1}, n)
			less := codeOf(m, text)
			text[n-1]++
			code := codeOf(m, text)
			if less[0] != 0 || less[1] != 255 || code[0] != 1 {
				t.Fatalf("model %d: nothing was carried from %x to %x", m, less, code)
			}
			checkCode(t, m, text, code)
			text[n-1]--
			checkCode(t, m, text, less)
		}
	}
}
