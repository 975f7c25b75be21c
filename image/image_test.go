package image_test

import (
	"math"
	"slices"
	"strings"
	"testing"

	"inlay/api"
	"inlay/image"
)

func section(name string, from, to int) api.Section {
	return api.Section{Name: name, From: from, To: to}
}

func code(name string, from, to int) api.Section {
	return api.Section{Name: name, From: from, To: to, Code: true}
}

// rows returns n sections of one byte each, side by side.
func rows(n int) []api.Section {
	var l []api.Section
	for i := range n {
		l = append(l, section("s"+string(rune('A'+i)), i, i+1))
	}
	return l
}

// validLists are lists that are valid for 2^16 bytes, and at the edges of what is valid.
func validLists() [][]api.Section {
	return [][]api.Section{
		nil,
		{},
		{section("a", 0, 1)},
		{code("boot", 0, 8), section("data", 8, 20)},
		{section("azAZ09", 3, 7), section("AZaz90", 7, 8)},
		{section("twelveLETTER", 65535, 65536)},
		{code("0", 0, 65536)},
		{code("code", 4, 12), section("code4", 13, 14), code("c", 65532, 65536)},
		{section("a", 1, 2), section("A", 10, 99), section("aa", 100, 9999), section("9", 10000, 65535)},
		rows(api.MaxSections),
	}
}

// P1.1 (A1)
func TestValidAcceptsListsUpToTheEdges(t *testing.T) {
	for _, l := range validLists() {
		n := 0
		if len(l) > 0 {
			n = l[len(l)-1].To
		}
		if !image.Valid(l, n) || !image.Valid(l, api.MaxImage) {
			t.Errorf("not valid for %d bytes: %v", n, l)
		}
	}
}

// P1.1 (A1)
func TestValidRefuses(t *testing.T) {
	for what, l := range map[string][]api.Section{
		"From below 0":          {section("a", -1, 4)},
		"an empty section":      {section("a", 4, 4)},
		"To below From":         {section("a", 5, 4)},
		"sections that overlap": {section("a", 0, 4), section("b", 3, 8)},
		"sections out of order": {section("a", 4, 8), section("b", 0, 4)},
		"a section in another":  {section("a", 0, 8), section("b", 2, 4)},
		"one name twice":        {section("a", 0, 4), section("a", 4, 8)},
		"one name, apart":       {section("a", 0, 1), section("b", 1, 2), section("c", 2, 3), section("a", 3, 4)},
		"code at 1":             {code("a", 1, 8)},
		"code at 2":             {code("a", 2, 8)},
		"code up to 6":          {code("a", 0, 6)},
		"code up to 7":          {code("a", 4, 7)},
		"the second at fault":   {section("a", 0, 4), code("b", 4, 9)},
		"numbers far below":     {section("a", math.MinInt, math.MinInt+4)},
		"numbers far above":     {section("a", 0, math.MaxInt)},
		"numbers that wrap":     {section("a", math.MaxInt, math.MinInt)},
	} {
		if image.Valid(l, api.MaxImage) {
			t.Errorf("valid in spite of %s: %v", what, l)
		}
	}
}

// P1.1 (A1): bytes of any value, and bytes beside the letters and digits.
func TestValidNames(t *testing.T) {
	for c := range 256 {
		name := string([]byte{byte(c)})
		want := strings.Contains("abcdefghijklmnopqrstuvwxyzABCDEFGHIJKLMNOPQRSTUVWXYZ0123456789", name)
		for _, s := range []string{name, "x" + name, name + "x"} {
			if image.Valid([]api.Section{section(s, 0, 1)}, 1) != want {
				t.Errorf("name %q: valid is not %v", s, want)
			}
		}
	}
	for _, s := range []string{"", "é", "٣", "a b", "a\n"} {
		if image.Valid([]api.Section{section(s, 0, 1)}, 1) {
			t.Errorf("name %q is valid", s)
		}
	}
}

// P1.1 (A1): n is any number.
func TestValidForAnyNumberOfBytes(t *testing.T) {
	l := []api.Section{section("a", 2, 9)}
	for n, want := range map[int]bool{math.MinInt: false, -1: false, 0: false, 8: false, 9: true, 10: true, math.MaxInt: true} {
		if image.Valid(l, n) != want {
			t.Errorf("Valid for %d bytes is not %v", n, want)
		}
	}
	if !image.Valid([]api.Section{section("a", 0, api.MaxImage+1)}, api.MaxImage+1) {
		t.Error("Valid has a limit of its own for n")
	}
	if !image.Valid(nil, 0) {
		t.Error("no sections are not valid for no bytes")
	}
}

// P1.7
func TestSectionsUpToTheirLimits(t *testing.T) {
	if !image.Valid(rows(8), 100) || image.Valid(rows(9), 100) {
		t.Error("the limit of sections is not 8")
	}
	name := strings.Repeat("n", 12)
	if !image.Valid([]api.Section{section(name, 0, 1)}, 1) || image.Valid([]api.Section{section(name+"n", 0, 1)}, 1) {
		t.Error("the limit of a name is not 12 bytes")
	}
	if image.Valid([]api.Section{section("a", 0, 5)}, 4) || !image.Valid([]api.Section{section("a", 0, 4)}, 4) {
		t.Error("the limit of To is not n")
	}
	for s, want := range map[string]api.Errno{
		image.Print(rows(8)):                    api.OK,
		image.Print(rows(9)):                    api.ErrImage,
		name + " 0 65536\n":                     api.OK,
		name + "n 0 65536\n":                    api.ErrImage,
		"a 0 65537\n":                           api.ErrImage,
		"a 65535 65536\n":                       api.OK,
		"a 65536 65537\n":                       api.ErrImage,
		"a 0 99999\n":                           api.ErrImage,
		"a 0 65536 code\n":                      api.OK,
		"a 65532 65536 code\n":                  api.OK,
		strings.Repeat("a 0 1\n", 1000):         api.ErrImage,
		strings.Repeat("a", 1000) + " 0 1\n":    api.ErrImage,
		"a 0 " + strings.Repeat("9", 30) + "\n": api.ErrForm,
	} {
		if _, e := image.Parse(s); e != want {
			t.Errorf("Parse(%.40q): %v, want %v", s, e, want)
		}
	}
}

// P1.3, P1.1 (A3)
func TestFindReturnsTheOnlySectionOfAByte(t *testing.T) {
	for _, l := range validLists() {
		for at := -2; at < api.MaxImage+2; at++ {
			want, count := -1, 0
			for i, s := range l {
				if s.From <= at && at < s.To {
					want = i
					count++
				}
			}
			if count > 1 {
				t.Fatalf("byte %d is in %d sections of %v", at, count, l)
			}
			if got := image.Find(l, at); got != want {
				t.Fatalf("Find(%v, %d) = %d, want %d", l, at, got, want)
			}
		}
	}
}

// P1.3, P1.1 (A3)
func TestFindOfAnyNumber(t *testing.T) {
	l := []api.Section{section("a", 2, 4), section("b", 4, 5), section("c", 8, 9)}
	for at, want := range map[int]int{math.MinInt: -1, -1: -1, 0: -1, 1: -1, 2: 0, 3: 0, 4: 1, 5: -1, 7: -1, 8: 2, 9: -1, math.MaxInt: -1} {
		if got := image.Find(l, at); got != want {
			t.Errorf("Find of %d: %d, want %d", at, got, want)
		}
	}
	if image.Find(nil, 0) != -1 {
		t.Error("Find in no sections")
	}
}

// P2 (A7), P1
func TestSectionsAreNotModified(t *testing.T) {
	l := []api.Section{code("boot", 0, 8), section("data", 8, 20), section("data", 8, 20)}
	before := slices.Clone(l)
	for range 2 {
		if image.Valid(l, 20) || !image.Valid(l[:2], 20) || image.Find(l, 9) != 1 || image.Print(l[:2]) != "boot 0 8 code\ndata 8 20\n" {
			t.Error("results differ from call to call")
		}
	}
	if !slices.Equal(l, before) {
		t.Errorf("the list was modified: %v", l)
	}
}
