package inst_test

import (
	"bytes"
	"math"
	"slices"
	"testing"

	"inlay/api"
	"inlay/inst"
)

// P2.1 (B4)
func TestWordsAndBytes(t *testing.T) {
	for _, c := range []struct {
		b []byte
		l []uint32
	}{
		{nil, nil},
		{[]byte{}, []uint32{}},
		{[]byte{0, 0, 0, 0}, []uint32{0}},
		{[]byte{1, 2, 3, 4}, []uint32{0x01020304}},
		{[]byte{255, 255, 255, 255}, []uint32{math.MaxUint32}},
		{[]byte{128, 0, 0, 1, 0, 128, 1, 0}, []uint32{0x80000001, 0x00800100}},
		{[]byte("inlay in"), []uint32{0x696E6C61, 0x7920696E}},
	} {
		if l, e := inst.Words(c.b); e != api.OK || !slices.Equal(l, c.l) {
			t.Errorf("Words(%v) = %x, %v, want %x", c.b, l, e, c.l)
		}
		if b := inst.Bytes(c.l); !bytes.Equal(b, c.b) {
			t.Errorf("Bytes(%x) = %v, want %v", c.l, b, c.b)
		}
	}
}

// P2.7: for all lengths up to 64 bytes, for the largest image and more, and for each value of each byte.
func TestWordsAndBytesInvertEachOther(t *testing.T) {
	long := make([]byte, 2*api.MaxImage)
	for i := range long {
		long[i] = byte(i + i/256*7)
	}
	check := func(b []byte) {
		l, e := inst.Words(b)
		if e != api.OK || len(l) != len(b)/4 || !bytes.Equal(inst.Bytes(l), b) {
			t.Fatalf("%d bytes: %d words, %v, and %d bytes again", len(b), len(l), e, len(inst.Bytes(l)))
		}
		if again, e := inst.Words(inst.Bytes(l)); e != api.OK || !slices.Equal(again, l) {
			t.Fatalf("%d words: %v, and %d words again", len(l), e, len(again))
		}
	}
	for n := 0; n <= 64; n += 4 {
		check(long[:n])
	}
	check(long[:api.MaxImage-4])
	check(long[:api.MaxImage])
	check(long)
	for i := range 4 {
		for v := range 256 {
			b := []byte{9, 9, 9, 9}
			b[i] = byte(v)
			check(b)
		}
	}
}

// P2.1 (B4), P1
func TestWordsRefusesOtherLengths(t *testing.T) {
	b := make([]byte, api.MaxImage+4)
	for n := range b {
		if n > 100 && n < api.MaxImage-100 {
			continue
		}
		l, e := inst.Words(b[:n])
		switch {
		case n%4 == 0 && (e != api.OK || len(l) != n/4):
			t.Errorf("%d bytes: %d words, %v", n, len(l), e)
		case n%4 != 0 && (e != api.ErrLength || len(l) != 0):
			t.Errorf("%d bytes: %d words, %v, want ErrLength", n, len(l), e)
		}
	}
}

// P2 (B6): arguments keep their values, and results have memory of their own.
func TestWordsAndBytesAreNotModified(t *testing.T) {
	b, l := []byte{1, 2, 3, 4, 5, 6, 7, 8}, []uint32{0x01020304, 0x05060708}
	words, _ := inst.Words(b[:4])
	rest, _ := inst.Words(b[4:])
	words[0], rest[0] = 0, 0
	for _, got := range [][]byte{inst.Bytes(l), inst.Bytes(l[:1])} {
		clear(got)
	}
	if !bytes.Equal(b, []byte{1, 2, 3, 4, 5, 6, 7, 8}) || !slices.Equal(l, []uint32{0x01020304, 0x05060708}) {
		t.Errorf("modified: %v, %x", b, l)
	}
	if again, e := inst.Words(b); e != api.OK || !slices.Equal(again, l) || !bytes.Equal(inst.Bytes(l), b) {
		t.Errorf("results differ from call to call: %x, %v", again, e)
	}
}
