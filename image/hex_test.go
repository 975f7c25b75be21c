package image_test

import (
	"bytes"
	"strings"
	"testing"

	"inlay/api"
	"inlay/image"
)

func allBytes() []byte {
	b := make([]byte, 256)
	for i := range b {
		b[i] = byte(i)
	}
	return b
}

// P1.1 (A6)
func TestHex(t *testing.T) {
	for want, b := range map[string][]byte{
		"": nil, "00": {0}, "00ab": {0, 171}, "0f10": {15, 16}, "ff": {255}, "99a09aa9": {0x99, 0xa0, 0x9a, 0xa9}, "0123456789abcdef": {0x01, 0x23, 0x45, 0x67, 0x89, 0xab, 0xcd, 0xef},
	} {
		if got := image.Hex(b); got != want {
			t.Errorf("Hex(%v) = %q, want %q", b, got, want)
		}
		if got, e := image.Bytes(want); e != api.OK || !bytes.Equal(got, b) {
			t.Errorf("Bytes(%q) = %v, %v, want %v", want, got, e, b)
		}
	}
}

// P1.6
func TestBytesInvertsHex(t *testing.T) {
	all := allBytes()
	for n := range len(all) + 1 {
		got, e := image.Bytes(image.Hex(all[:n]))
		if e != api.OK || !bytes.Equal(got, all[:n]) {
			t.Fatalf("Bytes of Hex of %d bytes: %v, %v", n, got, e)
		}
	}
}

// P1.6, P1.1 (A6): for each text of two bytes.
func TestHexInvertsBytes(t *testing.T) {
	accepted := 0
	for x := range 256 {
		for y := range 256 {
			s := string([]byte{byte(x), byte(y)})
			b, e := image.Bytes(s)
			isHex := strings.IndexByte("0123456789abcdef", s[0]) >= 0 && strings.IndexByte("0123456789abcdef", s[1]) >= 0
			switch {
			case isHex && (e != api.OK || image.Hex(b) != s):
				t.Errorf("Bytes(%q) = %v, %v", s, b, e)
			case !isHex && (e != api.ErrForm || len(b) != 0):
				t.Errorf("Bytes(%q) = %v, %v, want ErrForm", s, b, e)
			}
			if e == api.OK {
				accepted++
			}
		}
	}
	if accepted != 256 {
		t.Errorf("%d texts of two bytes are accepted", accepted)
	}
}

// P1.1 (A6), P1
func TestBytesRefuses(t *testing.T) {
	for _, s := range []string{"0", "000", "00ab0", "0g", "g0", "AB", "aB", "Ab", "0 ", " 0", "00 ab", "0x00", "00\n", "0\n", "00abcdeF", "\u0661", "\uff10a", "\xff\xff", "00" + strings.Repeat("a", 99)} {
		if b, e := image.Bytes(s); e != api.ErrForm || len(b) != 0 {
			t.Errorf("Bytes(%q) = %v, %v, want ErrForm", s, b, e)
		}
	}
}

// P2 (A7)
func TestHexDoesNotModify(t *testing.T) {
	b := allBytes()
	first := image.Hex(b)
	if !bytes.Equal(b, allBytes()) || image.Hex(b) != first {
		t.Error("Hex modified its argument")
	}
	got, _ := image.Bytes(first)
	clear(got)
	if again, e := image.Bytes(first); e != api.OK || !bytes.Equal(again, b) {
		t.Error("Bytes differs from call to call")
	}
}
