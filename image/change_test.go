package image_test

import (
	"bytes"
	"math"
	"slices"
	"testing"

	"inlay/api"
	"inlay/image"
)

func span(from, to int) api.Range {
	return api.Range{From: from, To: to}
}

// bytesIn returns the bytes of b in the ranges, one after the other.
func bytesIn(b []byte, l []api.Range) []byte {
	var data []byte
	for _, r := range l {
		data = append(data, b[r.From:r.To]...)
	}
	return data
}

func inRanges(l []api.Range, at int) bool {
	return slices.ContainsFunc(l, func(r api.Range) bool { return r.From <= at && at < r.To })
}

// P1.1 (A4)
func TestChanged(t *testing.T) {
	for _, c := range []struct {
		a, b string
		want []api.Range
	}{
		{"", "", nil},
		{"abc", "abc", nil},
		{"a", "b", []api.Range{span(0, 1)}},
		{"abc", "xyz", []api.Range{span(0, 3)}},
		{"abcdef", "aXcYZf", []api.Range{span(1, 2), span(3, 5)}},
		{"abcd", "Xbcd", []api.Range{span(0, 1)}},
		{"abcd", "abcX", []api.Range{span(3, 4)}},
		{"abcde", "XbXdX", []api.Range{span(0, 1), span(2, 3), span(4, 5)}},
		{"\x00\x00\x00", "\x01\x00\x80", []api.Range{span(0, 1), span(2, 3)}},
		{"abc\nabc", "abc\rabd", []api.Range{span(3, 4), span(6, 7)}},
	} {
		if got := image.Changed([]byte(c.a), []byte(c.b)); !slices.Equal(got, c.want) {
			t.Errorf("Changed(%q, %q) = %v, want %v", c.a, c.b, got, c.want)
		}
	}
}

// P1.4, P1.1 (A4): for each way in which up to ten bytes can differ.
func TestSpreadingWhatChangedGivesTheOther(t *testing.T) {
	a := []byte("0123456789")
	for n := range len(a) + 1 {
		for set := range 1 << n {
			b := bytes.Clone(a[:n])
			for i := range n {
				b[i] ^= byte(set >> i & 1)
			}
			checkChanged(t, a[:n], b)
		}
	}
	old := bytes.Repeat([]byte("inlay\x00"), api.MaxImage/6)
	changed := bytes.Clone(old)
	for i := 0; i < len(changed); i += 1 + i%7 {
		changed[i] += byte(i)
	}
	checkChanged(t, old, changed)
}

func checkChanged(t *testing.T, a, b []byte) {
	t.Helper()
	l := image.Changed(a, b)
	end := -1
	for _, r := range l {
		if r.From <= end || r.From >= r.To {
			t.Fatalf("Changed(%q, %q): %v is not right", a, b, l)
		}
		end = r.To
	}
	if len(a) <= 10 {
		for i := range a {
			if inRanges(l, i) != (a[i] != b[i]) {
				t.Fatalf("Changed(%q, %q) = %v is wrong for byte %d", a, b, l, i)
			}
		}
	}
	if got, e := image.Spread(a, l, bytesIn(b, l)); e != api.OK || !bytes.Equal(got, b) {
		t.Fatalf("Spread of %q over %v: %q, %v, want %q", a, l, got, e, b)
	}
}

// P1: for other lengths there is no specified result, but Changed does end.
func TestChangedEndsForOtherLengths(t *testing.T) {
	image.Changed(nil, []byte("abc"))
	image.Changed([]byte("abcdef"), []byte("xb"))
}

// P1.1 (A5)
func TestSpread(t *testing.T) {
	for _, c := range []struct {
		a    string
		l    []api.Range
		data string
		want string
	}{
		{"", nil, "", ""},
		{"abc", nil, "", "abc"},
		{"abcdef", []api.Range{span(1, 2), span(3, 5)}, "XYZ", "aXcYZf"},
		{"abcdef", []api.Range{span(0, 6)}, "ABCDEF", "ABCDEF"},
		{"abcdef", []api.Range{span(0, 1), span(2, 3), span(5, 6)}, "XYZ", "XbYdeZ"},
		{"abcdef", []api.Range{span(2, 4)}, "cd", "abcdef"},
	} {
		if got, e := image.Spread([]byte(c.a), c.l, []byte(c.data)); e != api.OK || string(got) != c.want {
			t.Errorf("Spread(%q, %v, %q) = %q, %v, want %q", c.a, c.l, c.data, got, e, c.want)
		}
	}
}

// P1.5, P1.1 (A5): for all right lists of up to three ranges in eight bytes.
func TestSpreadChangesJustTheRanges(t *testing.T) {
	a := []byte("abcdefgh")
	const fresh = "01234567"
	count := 0
	var grow func(l []api.Range)
	grow = func(l []api.Range) {
		count++
		size := len(bytesIn(a, l))
		got, e := image.Spread(a, l, []byte(fresh[:size]))
		if e != api.OK || len(got) != len(a) || string(bytesIn(got, l)) != fresh[:size] {
			t.Fatalf("Spread over %v: %q, %v", l, got, e)
		}
		first := 0
		if len(l) > 0 {
			first = l[len(l)-1].To + 1
		}
		for i := range a {
			if !inRanges(l, i) && got[i] != a[i] {
				t.Fatalf("Spread over %v changed byte %d: %q", l, i, got)
			}
		}
		for from := first; from < len(a) && len(l) < 3; from++ {
			for to := from + 1; to <= len(a); to++ {
				grow(append(slices.Clone(l), span(from, to)))
			}
		}
	}
	grow(nil)
	if count < 100 {
		t.Errorf("only %d lists", count)
	}
}

// P1.1 (A5), P1.7, P1
func TestSpreadRefuses(t *testing.T) {
	for _, c := range []struct {
		l    []api.Range
		data string
	}{
		{nil, "x"},
		{[]api.Range{span(0, 1)}, ""},
		{[]api.Range{span(0, 1)}, "xy"},
		{[]api.Range{span(0, 2), span(3, 5)}, "xyz"},
		{[]api.Range{span(0, 2), span(3, 5)}, "vwxyz"},
		{[]api.Range{span(0, 0)}, ""},
		{[]api.Range{span(6, 6)}, ""},
		{[]api.Range{span(2, 1)}, ""},
		{[]api.Range{span(2, 1)}, "x"},
		{[]api.Range{span(-1, 1)}, "xy"},
		{[]api.Range{span(-1, 0)}, "x"},
		{[]api.Range{span(5, 7)}, "xy"},
		{[]api.Range{span(6, 7)}, "x"},
		{[]api.Range{span(0, 1), span(1, 2)}, "xy"},
		{[]api.Range{span(0, 3), span(2, 5)}, "vwxyzz"},
		{[]api.Range{span(1, 2), span(1, 2)}, "xy"},
		{[]api.Range{span(3, 4), span(0, 1)}, "xy"},
		{[]api.Range{span(0, 1), span(3, 3)}, "x"},
		{[]api.Range{span(0, 4), span(6, 4)}, "xy"},
		{[]api.Range{span(0, math.MaxInt)}, "abcdef"},
		{[]api.Range{span(math.MinInt, 6)}, "abcdef"},
		{[]api.Range{span(math.MaxInt, math.MinInt)}, "x"},
		{[]api.Range{span(math.MinInt, 0), span(math.MinInt, 0)}, ""},
	} {
		if got, e := image.Spread([]byte("abcdef"), c.l, []byte(c.data)); e != api.ErrArg || len(got) != 0 {
			t.Errorf("Spread(%v, %q) = %q, %v, want ErrArg", c.l, c.data, got, e)
		}
	}
	if got, e := image.Spread(nil, []api.Range{span(0, 1)}, []byte("x")); e != api.ErrArg || len(got) != 0 {
		t.Errorf("Spread of no bytes: %q, %v", got, e)
	}
}

// P2 (A7), P1.5: arguments keep their bytes, and results have bytes of their own.
func TestBytesAreNotModified(t *testing.T) {
	a, b, data := []byte("abcdef"), []byte("aXcYZf"), []byte("XYZ")
	l := image.Changed(a, b)
	first, _ := image.Spread(a, l, data)
	none, _ := image.Spread(a, nil, nil)
	all, _ := image.Spread(a, []api.Range{span(0, 6)}, b)
	for _, got := range [][]byte{first, none, all} {
		for i := range got {
			got[i] = '!'
		}
	}
	if string(a) != "abcdef" || string(b) != "aXcYZf" || string(data) != "XYZ" || !slices.Equal(l, []api.Range{span(1, 2), span(3, 5)}) {
		t.Errorf("modified: %q, %q, %q, %v", a, b, data, l)
	}
	if again, e := image.Spread(a, image.Changed(a, b), data); e != api.OK || string(again) != "aXcYZf" {
		t.Errorf("Spread again: %q, %v", again, e)
	}
}
