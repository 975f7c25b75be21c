package coder_test

import (
	"bytes"
	"math/rand/v2"
	"testing"

	"inlay/api"
	"inlay/coder"
	"inlay/sample"
)

// changed returns byte lists that are like a code, but others.
func changed(r *rand.Rand, code []byte) [][]byte {
	l := [][]byte{
		append(bytes.Clone(code), 0), append(bytes.Clone(code), 1), append(bytes.Clone(code), 255),
		append(bytes.Clone(code), 0, 0, 0, 0, 1), append([]byte{0}, code...), append([]byte{1}, code...),
	}
	for i := range code {
		for _, add := range []byte{1, 255, byte(1 + r.IntN(255))} {
			c := bytes.Clone(code)
			c[i] += add
			l = append(l, c)
		}
		l = append(l, code[:i], code[i:])
		// What is just before a code can be behind all texts that begin as one, as the parts of the bytes leave some
		// of the width over.
		if code[i] > 0 {
			before := append(bytes.Clone(code[:i]), code[i]-1)
			l = append(l, append(before, 255), append(before, 255, 255, 255, 255))
		}
	}
	return l
}

// P13.1 (M2), P13.3: what is nearly a code, against what the chapter says of it.
func TestChangedCodes(t *testing.T) {
	r := rand.New(rand.NewPCG(13, 3))
	accepted, refused := 0, 0
	for n := range 8 {
		for _, kinds := range []int{2, 256} {
			text := sample.Kinds(r.IntN, n, kinds)
			for _, m := range models {
				for _, code := range append(changed(r, codeOf(m, text)), codeOf(m, text)) {
					for _, k := range []int{max(0, n-1), n, n + 2} {
						want, ok := textOf(m, code, k)
						got, e := coder.Decode(m, code, k)
						switch {
						case ok && (e != api.OK || !bytes.Equal(got, want)):
							t.Fatalf("model %d: the text of %d bytes of %x is %x, error %d, want %x", m, k, code, got, e, want)
						case !ok && (e != api.ErrCode || len(got) != 0):
							t.Fatalf("model %d: the text of %d bytes of %x is %x, error %d, want ErrCode", m, k, code, got, e)
						case ok:
							accepted++
						default:
							refused++
						}
					}
				}
			}
		}
	}
	if accepted < 90 || refused < 2000 {
		t.Errorf("only %d were accepted, and %d refused", accepted, refused)
	}
}

// P13.3: codes that are made of others at random, and some that are not.
func TestAcceptedCodes(t *testing.T) {
	r := rand.New(rand.NewPCG(13, 4))
	accepted := 0
	for n := range 70 {
		text := sample.Kinds(r.IntN, n, 1+r.IntN(256))
		for _, m := range models {
			code := codeOf(m, text)
			l := append(changed(r, code), code, sample.Kinds(r.IntN, n, 256), sample.Kinds(r.IntN, r.IntN(5), 256))
			for _, c := range l {
				k := n + r.IntN(4)
				got, e := coder.Decode(m, c, k)
				if e != api.OK {
					continue
				}
				accepted++
				if again, e := coder.Encode(m, got); len(got) != k || e != api.OK || !bytes.Equal(again, c) {
					t.Fatalf("model %d: the text of %d bytes of %x is %x, whose code is %x, error %d", m, k, c, got, again, e)
				}
			}
		}
	}
	if accepted < 210 {
		t.Errorf("only %d were accepted", accepted)
	}
}

// P13.2, P13.3: bytes 0 at the end of a text change nothing in its code, so that the same code has longer texts. It has
// a shorter one only if these bytes are left out.
func TestOtherLengths(t *testing.T) {
	r := rand.New(rand.NewPCG(13, 5))
	for n := 1; n < 100; n++ {
		text := sample.Kinds(r.IntN, n, 1+r.IntN(256))
		text[n-1] |= 1 // so that it is not 0
		for _, m := range models {
			code := codeOf(m, text)
			for k := range n {
				if got, e := coder.Decode(m, code, k); e != api.ErrCode || len(got) != 0 {
					t.Fatalf("model %d: the text of %d bytes of %x is %x, error %d, want ErrCode", m, k, code, got, e)
				}
			}
			for _, zeros := range []int{0, 1, 5, 3000, api.MaxImage - n} {
				want := append(bytes.Clone(text), make([]byte, zeros)...)
				if got, e := coder.Decode(m, code, n+zeros); e != api.OK || !bytes.Equal(got, want) {
					t.Fatalf("model %d: the text of %d bytes of %x is %s, error %d, want %s", m, n+zeros, code, short(got), e, short(want))
				}
			}
		}
	}
}

// P13.4: all texts of two bytes, many of eight, and longer ones that differ in one byte.
func TestDifferences(t *testing.T) {
	var seen map[string][]byte
	note := func(m int, text []byte) {
		code := sample.Must(coder.Encode(m, text))
		if other, ok := seen[string(code)]; ok {
			t.Fatalf("model %d: %x and %x have the same code %x", m, text, other, code)
		}
		seen[string(code)] = bytes.Clone(text)
	}
	for _, m := range models {
		seen = map[string][]byte{}
		for i := range 1 << 16 {
			note(m, []byte{byte(i >> 8), byte(i)})
		}
		seen = map[string][]byte{}
		sample.EachText(8, "\x00\x01\xff", func(b []byte) {
			if len(b) == 8 {
				note(m, b)
			}
		})
	}
	r := rand.New(rand.NewPCG(13, 6))
	for _, n := range []int{1, 10, 300, 2100, 9000} {
		for _, text := range textsOf(n) {
			for _, m := range models {
				other := bytes.Clone(text)
				other[r.IntN(n)] += byte(1 + r.IntN(255))
				if bytes.Equal(sample.Must(coder.Encode(m, text)), sample.Must(coder.Encode(m, other))) {
					t.Fatalf("model %d: %s and %s have the same code", m, short(text), short(other))
				}
			}
		}
	}
}

// P13.5: in model 0; the size in all models.
func TestSizes(t *testing.T) {
	compare := func(text []byte) {
		for _, m := range models {
			code := sample.Must(coder.Encode(m, text))
			n, e := coder.Size(m, text)
			if e != api.OK || n != len(code) {
				t.Fatalf("model %d: the code of %s has %d bytes, and Size is %d, error %d", m, short(text), len(code), n, e)
			}
			if m == 0 && n > len(text)+4 {
				t.Fatalf("the code of %d bytes has %d bytes in model 0", len(text), n)
			}
		}
	}
	for a := range 256 {
		compare([]byte{byte(a)})
	}
	sample.EachText(8, "\x00\x01\xff", compare)
	for n := range 60 {
		for _, b := range textsOf(n) {
			compare(b)
		}
	}
	for _, n := range []int{1000, 3000, api.MaxImage} {
		for _, b := range textsOf(n) {
			compare(b)
		}
	}
}

// P13.1 (M3): what repeats itself gets shorter by model 1, and what follows other bytes by model 2.
func TestFewerBytes(t *testing.T) {
	r := rand.New(rand.NewPCG(13, 7))
	few := sample.Kinds(r.IntN, 6000, 3)
	chained := bytes.Repeat([]byte("each of these words is here many times. "), 100)
	for _, c := range []struct {
		what        string
		less, great int
	}{
		{"three kinds of bytes", sample.Must(coder.Size(1, few)), len(few) / 3},
		{"three kinds of bytes, after each other", sample.Must(coder.Size(2, few)), len(few) / 3},
		{"words", sample.Must(coder.Size(1, chained)), len(chained) * 2 / 3},
		{"words, after each other", sample.Must(coder.Size(2, chained)), sample.Must(coder.Size(1, chained)) * 2 / 3},
	} {
		if c.less > c.great {
			t.Errorf("%s: %d bytes, want at most %d", c.what, c.less, c.great)
		}
	}
}

// P13.6: texts of bytes 0, and the same ones in which one byte is another one.
func TestZeros(t *testing.T) {
	for _, n := range []int{0, 1, 2, 3, 4, 5, 255, 256, 257, 2040, 2041, 2042, 4081, 30000, api.MaxImage - 1, api.MaxImage} {
		zeros := make([]byte, n)
		for _, m := range models {
			checkCode(t, m, zeros, nil)
			for _, i := range []int{0, n / 2, n - 1} {
				if i < 0 || i >= n {
					continue
				}
				other := make([]byte, n)
				other[i] = 1
				if size := sample.Must(coder.Size(m, other)); size == 0 {
					t.Errorf("model %d: a text of %d bytes with a 1 at %d has an empty code", m, n, i)
				}
			}
		}
	}
}

// P13.7: all texts of at most one byte, and all bytes behind bytes 0.
func TestTables(t *testing.T) {
	for _, zeros := range []int{0, 1, 2, 3, 100, 2039, 2040, 2041, 2042, 5000} {
		for b := range 256 {
			text := append(make([]byte, zeros), byte(b))
			one, e := coder.Encode(1, text)
			two, f := coder.Encode(2, text)
			if e != api.OK || f != api.OK || !bytes.Equal(one, two) {
				t.Fatalf("%d bytes 0, and %d: %x, error %d, and %x, error %d", zeros, b, one, e, two, f)
			}
		}
	}
	longest := append(make([]byte, api.MaxImage-1), 9)
	if one, two := sample.Must(coder.Encode(1, longest)), sample.Must(coder.Encode(2, longest)); !bytes.Equal(one, two) {
		t.Errorf("the longest text: %x and %x", one, two)
	}
	if one, two := sample.Must(coder.Encode(1, nil)), sample.Must(coder.Encode(2, nil)); len(one) != 0 || len(two) != 0 {
		t.Errorf("the empty text: %x and %x", one, two)
	}
	// Bytes before the last one change the tables.
	if one, two := sample.Must(coder.Encode(1, []byte{5, 5})), sample.Must(coder.Encode(2, []byte{5, 5})); bytes.Equal(one, two) {
		t.Errorf("two equal bytes have the code %x in both models", one)
	}
}
