package image_test

import (
	"math"
	"slices"
	"strings"
	"testing"

	"inlay/api"
	"inlay/image"
)

// P1.1 (A2)
func TestPrint(t *testing.T) {
	for _, c := range []struct {
		l    []api.Section
		want string
	}{
		{nil, ""},
		{[]api.Section{code("boot", 0, 8), section("data", 8, 20)}, "boot 0 8 code\ndata 8 20\n"},
		{[]api.Section{section("a", 9, 10), section("b", 100, 101), code("code", 1000, 65536)}, "a 9 10\nb 100 101\ncode 1000 65536 code\n"},
	} {
		if got := image.Print(c.l); got != c.want {
			t.Errorf("Print(%v) = %q, want %q", c.l, got, c.want)
		}
	}
}

// P1.2, P1.1 (A2)
func TestTextsAndListsDetermineEachOther(t *testing.T) {
	texts := map[string]bool{}
	for _, l := range validLists() {
		text := image.Print(l)
		got, e := image.Parse(text)
		if e != api.OK || !slices.Equal(got, l) {
			t.Errorf("Parse(%q) = %v, %v, want %v", text, got, e, l)
		}
		if texts[text] && len(l) > 0 {
			t.Errorf("two lists have the text %q", text)
		}
		texts[text] = true
	}
}

// P1.2: whatever is parsed has just that text, also after a byte of a text was taken out, put in or changed.
func TestParsedTextsArePrintedAgain(t *testing.T) {
	accepted := 0
	check := func(text string) {
		l, e := image.Parse(text)
		switch e {
		case api.OK:
			accepted++
			if image.Print(l) != text || !image.Valid(l, api.MaxImage) {
				t.Errorf("Parse(%q) = %v", text, l)
			}
		case api.ErrForm, api.ErrImage:
			if len(l) != 0 {
				t.Errorf("Parse(%q): %v, with error %v", text, l, e)
			}
		default:
			t.Errorf("Parse(%q): error %v", text, e)
		}
	}
	for _, text := range []string{"", "a 0 1\n", "boot 0 8 code\ndata 8 20\n", "twelveLETTER 8 20\n9 24 65536 code\n"} {
		check(text)
		for i := range len(text) + 1 {
			for _, c := range " \n\r\t\x00049azAZ+-_.\u00e9code" {
				check(text[:i] + string(c) + text[i:])
				if i < len(text) {
					check(text[:i] + string(c) + text[i+1:])
				}
			}
			if i < len(text) {
				check(text[:i] + text[i+1:])
			}
		}
	}
	if accepted < 100 {
		t.Errorf("only %d texts were accepted", accepted)
	}
}

// P1.1 (A2), P1
func TestParseRefusesForms(t *testing.T) {
	for _, s := range []string{
		// no lines of sections
		"\n", " \n", "  \n", "   \n", "a\n", "a \n", "a 0\n", "a 0 \n", "a  8\n", "code\n", "0 8 code\n", "\na 0 8\n", "a 0 8\n\n",
		// a rest after the last newline
		"a", " ", "a 0 8", "a 0 8 code", "a 0 8\nx", "a 0 8\n ", "a 0 8\nb 8 9",
		// no name
		" 0 8\n", " 0 8 code\n",
		// other spaces
		" a 0 8\n", "a  0 8\n", "a 0  8\n", "a 0 8 \n", "a 0 8  code\n", "a 0 8 code \n", "a\t0\t8\n", "a 0 8\r\n", "a 0 8 code\r\n", "b c 0 8\n",
		// another word than code
		"a 0 8 Code\n", "a 0 8 CODE\n", "a 0 8 cod\n", "a 0 8 codes\n", "a 0 8 data\n", "a 0 8 code code\n", "a 0 8 9\n",
		// no numbers
		"a x 8\n", "a 0 x\n", "a -1 8\n", "a 0 -8\n", "a +0 8\n", "a 0 +8\n", "a 0x0 8\n", "a 0 8.\n", "a 0 8_0\n", "a \u0660 8\n", "a 0 \uff18\n", "a / 8\n", "a 0 :\n", "a 0 \xff\n",
		// zeros before a number
		"a 00 8\n", "a 0 08\n", "a 0 008 code\n", "a 00000 8\n",
		// too many digits
		"a 0 100000\n", "a 100000 8\n", "a 000000 8\n", "a 0 065536\n", "a 0 18446744073709551624\n",
		// one wrong line among others
		"a 0 8\nb 8\nc 9 10\n", "a 0 8\nb 8 9\nc 9 10",
	} {
		if l, e := image.Parse(s); e != api.ErrForm || len(l) != 0 {
			t.Errorf("Parse(%q) = %v, %v, want ErrForm", s, l, e)
		}
	}
}

// P1.1 (A2), P1
func TestParseRefusesImages(t *testing.T) {
	for _, s := range []string{
		"boot 0 6 code\n", "boot 2 8 code\n", "boot 8 8\n", "boot 9 8\n", "a 0 65537\n", "a 0 4\na 4 8\n", "a 0 4\nb 3 8\n", "b 4 8\na 0 4\n",
		"a_ 0 4\n", "thirteenbytes 0 4\n", "a\t 0 4\n", "a\r 0 4\n", "\x00 0 4\n", "\u00e9 0 4\n", "\xff 0 4\n", "\t 0 4\n", "- 0 4\n",
	} {
		if l, e := image.Parse(s); e != api.ErrImage || len(l) != 0 {
			t.Errorf("Parse(%q) = %v, %v, want ErrImage", s, l, e)
		}
	}
}

// P1.1 (A2): the form of each line is checked before the sections are.
func TestParseNamesTheFirstError(t *testing.T) {
	for _, s := range []string{
		"boot 8 8\nbad\n", "boot 8 8\nrest", "a_ 0 4\nb 04 8\n", "a 0 4\na 0 4\n\n",
		strings.Repeat("a 0 1\n", 9) + "a 0 1", strings.Repeat("a 0 1\n", 9) + "x\n",
	} {
		if l, e := image.Parse(s); e != api.ErrForm || len(l) != 0 {
			t.Errorf("Parse(%q) = %v, %v, want ErrForm", s, l, e)
		}
	}
}

// P2: what one call returned stays as it is.
func TestParsedListsAreTheirOwn(t *testing.T) {
	const text = "boot 0 8 code\ndata 8 20\n"
	first, _ := image.Parse(text)
	first[0], first[1] = section("x", 1, 2), section("y", 2, 3)
	if l, e := image.Parse(text); e != api.OK || image.Print(l) != text {
		t.Errorf("Parse again: %v, %v", l, e)
	}
}

// P1: lists that are not valid have no specified text, but Print does end.
func TestPrintEndsForOtherLists(t *testing.T) {
	image.Print([]api.Section{section("", math.MinInt, math.MaxInt), section("\xff\n", -1, -10), section("a", 5, 5)})
	image.Print(rows(20))
}
