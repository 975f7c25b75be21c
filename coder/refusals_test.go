package coder_test

import (
	"bytes"
	"encoding/hex"
	"math"
	"math/rand/v2"
	"strconv"
	"testing"

	"inlay/api"
	"inlay/coder"
	"inlay/sample"
)

// short returns bytes as a text that is not too long for a message.
func short(b []byte) string {
	if len(b) <= 40 {
		return hex.EncodeToString(b)
	}
	return hex.EncodeToString(b[:40]) + ".. (" + strconv.Itoa(len(b)) + " bytes)"
}

// checkRefused checks that a text is refused with an error, and that nothing else is returned.
func checkRefused(t *testing.T, model int, text []byte, want api.Errno) {
	t.Helper()
	if code, e := coder.Encode(model, text); e != want || len(code) != 0 {
		t.Errorf("model %d: the code of %d bytes is %s, error %d, want %d", model, len(text), short(code), e, want)
	}
	if n, e := coder.Size(model, text); e != want || n != 0 {
		t.Errorf("model %d: the code of %d bytes has %d bytes, error %d, want %d", model, len(text), n, e, want)
	}
}

// checkNoText checks that there is no text of n bytes with this code.
func checkNoText(t *testing.T, model int, code []byte, n int) {
	t.Helper()
	if text, e := coder.Decode(model, code, n); e != api.ErrCode || len(text) != 0 {
		t.Errorf("model %d: the text of %d bytes of %s is %s, error %d, want ErrCode", model, n, short(code), short(text), e)
	}
}

// P13.1 (M1, M2, M3), P1: numbers that are no models, also with texts and lengths that are wrong too.
func TestWrongModels(t *testing.T) {
	for _, m := range []int{-1, 3, 4, 255, 256, -256, 1 << 32, math.MaxInt, math.MinInt} {
		for _, n := range []int{0, 1, 5, api.MaxImage, api.MaxImage + 1} {
			checkRefused(t, m, make([]byte, n), api.ErrCode)
			checkNoText(t, m, nil, n)
			checkNoText(t, m, []byte{0, 255, 255, 255}, n)
		}
		checkNoText(t, m, nil, -1)
	}
}

// P13.1 (M1, M3), P1: texts that are too long.
func TestTooLong(t *testing.T) {
	for _, m := range models {
		for _, n := range []int{api.MaxImage + 1, api.MaxImage + 2, 2 * api.MaxImage, 1 << 22} {
			checkRefused(t, m, make([]byte, n), api.ErrBig)
			checkRefused(t, m, bytes.Repeat([]byte{1}, n), api.ErrBig)
		}
	}
}

// P13.1 (M2), P1: lengths that no text has.
func TestWrongLengths(t *testing.T) {
	for _, m := range models {
		for _, n := range []int{-1, -2, api.MaxImage + 1, 2 * api.MaxImage, 1 << 32, math.MaxInt, math.MinInt} {
			for _, code := range [][]byte{nil, {0}, {1}, {0, 255, 255, 255}, {255, 255, 255, 255}} {
				checkNoText(t, m, code, n)
			}
		}
	}
}

// P13.1 (M2), P13.3: only the empty code has the empty text.
func TestCodesOfNothing(t *testing.T) {
	r := rand.New(rand.NewPCG(13, 8))
	for _, m := range models {
		if text, e := coder.Decode(m, nil, 0); e != api.OK || len(text) != 0 {
			t.Errorf("model %d: %x, error %d", m, text, e)
		}
		for b := range 256 {
			for zeros := range 7 {
				checkNoText(t, m, append(make([]byte, zeros), byte(b)), 0)
				checkNoText(t, m, append([]byte{byte(b)}, make([]byte, zeros)...), 0)
			}
		}
		for n := 1; n < 50; n++ {
			checkNoText(t, m, sample.Kinds(r.IntN, n, 256), 0)
		}
	}
}

// P13.1 (M1, M2), P13.3: the code of the byte b is b times 2^24 - 1, as the first unit is that wide in all models. What is
// next to these codes, or shorter, is none.
func TestCodesOfOneByte(t *testing.T) {
	for _, m := range models {
		for i := range 1 << 16 {
			for n := range 2 {
				checkNoText(t, m, []byte{byte(i >> 8), byte(i)}, n)
			}
		}
		for b := range 256 {
			checkNoText(t, m, []byte{byte(b)}, 1)
			low := b * (1<<24 - 1)
			code := bytes.TrimRight([]byte{byte(low >> 24), byte(low >> 16), byte(low >> 8), byte(low)}, "\x00")
			checkCode(t, m, []byte{byte(b)}, code)
			for _, add := range []int{-2, -1, 1, 2, 255, 256, 1 << 16} {
				if next := low + add; b > 0 {
					checkNoText(t, m, []byte{byte(next >> 24), byte(next >> 16), byte(next >> 8), byte(next)}, 1)
				}
			}
			// One byte more than the four of low and the one that is shifted.
			for _, end := range [][]byte{{0}, {1}, {0, 0}, {0, 1}} {
				checkNoText(t, m, append([]byte{byte(low >> 24), byte(low >> 16), byte(low >> 8), byte(low)}, end...), 1)
			}
		}
		// What is at least 256 times 2^24 - 1 is beyond all texts.
		for _, code := range [][]byte{{255, 255, 255}, {255, 255, 255, 1}, {255, 255, 255, 255}, bytes.Repeat([]byte{255}, 9)} {
			for _, n := range []int{1, 2, 3, 100, api.MaxImage} {
				checkNoText(t, m, code, n)
			}
		}
	}
}

// P1, P13.1 (M2): codes that are far too long, or have nothing in common with one, return soon.
func TestLongCodes(t *testing.T) {
	r := rand.New(rand.NewPCG(13, 9))
	for _, m := range models {
		for _, n := range []int{0, 1, 1000, api.MaxImage} {
			for _, size := range []int{3 * api.MaxImage, 1 << 20} {
				checkNoText(t, m, bytes.Repeat([]byte{255}, size), n)
				checkNoText(t, m, append(make([]byte, size), 1), n)
				checkNoText(t, m, append([]byte{1}, make([]byte, size)...), n)
				random := sample.Kinds(r.IntN, size, 255)
				random[0], random[size-1] = 3, 1 // it is inside of the codes, and does not end with 0
				checkNoText(t, m, random, n)
			}
		}
	}
}

// P2, P13.1 (M4): arguments are as before, the same call has the same results, and these are memory of their own.
func TestNothingIsModified(t *testing.T) {
	room := []byte("a text and more of it")
	text := room[:6]
	for _, m := range models {
		code := sample.Must(coder.Encode(m, text))
		codeRoom := append(bytes.Clone(code), 1, 2, 3)
		for range 2 {
			again := sample.Must(coder.Encode(m, text))
			if !bytes.Equal(again, code) || &again[0] == &code[0] {
				t.Errorf("model %d: Encode again: %x", m, again)
			}
			clear(again[:cap(again)])
			if n := sample.Must(coder.Size(m, text)); n != len(code) {
				t.Errorf("model %d: Size again: %d", m, n)
			}
			got := sample.Must(coder.Decode(m, codeRoom[:len(code)], len(text)))
			if !bytes.Equal(got, text) || &got[0] == &text[0] {
				t.Errorf("model %d: Decode again: %x", m, got)
			}
			clear(got[:cap(got)])
			checkNoText(t, m, codeRoom, len(text))
		}
		if string(room) != "a text and more of it" || !bytes.Equal(codeRoom, append(bytes.Clone(code), 1, 2, 3)) {
			t.Errorf("model %d: modified: %q, %x", m, room, codeRoom)
		}
	}
}
