package sample_test

import (
	"bytes"
	"math/rand/v2"
	"slices"
	"testing"

	"inlay/api"
	"inlay/patch"
	"inlay/sample"
)

// What is missing here would be missing in the tests of the other packages.
func TestEachText(t *testing.T) {
	var got []string
	sample.EachText(2, "a\xff", func(b []byte) { got = append(got, string(b)) })
	if want := []string{"", "a", "aa", "a\xff", "\xff", "\xffa", "\xff\xff"}; !slices.Equal(got, want) {
		t.Errorf("the texts are %q, want %q", got, want)
	}
	for _, c := range []struct {
		n    int
		of   string
		want int
	}{{-1, "ab", 1}, {0, "ab", 1}, {3, "", 1}, {5, "\x00", 6}, {8, "ab", 511}, {4, "abc", 121}} {
		seen := map[string]bool{}
		calls := 0
		sample.EachText(c.n, c.of, func(b []byte) {
			calls++
			seen[string(b)] = true
		})
		if len(seen) != c.want || calls != c.want {
			t.Errorf("%d, %q: %d texts in %d calls, want %d", c.n, c.of, len(seen), calls, c.want)
		}
	}
}

func TestText(t *testing.T) {
	r := rand.New(rand.NewPCG(0, 1))
	for n := range 100 {
		b := sample.Text(r.IntN, n, "a\xff")
		if len(b) != n || bytes.Count(b, []byte("a"))+bytes.Count(b, []byte{255}) != n {
			t.Errorf("%d bytes: %q", n, b)
		}
	}
	if b := sample.Text(r.IntN, 100, "a\xff"); !bytes.Contains(b, []byte("a\xff")) {
		t.Errorf("100 bytes: %q", b)
	}
}

func TestPatch(t *testing.T) {
	r := rand.New(rand.NewPCG(0, 2))
	seen := map[int]bool{}
	for _, in := range []int{0, 1, 2, 10, api.MaxImage} {
		for _, out := range []int{0, 1, 5, 6, 7, 300, 5000, api.MaxImage} {
			for range 5 {
				p := sample.Patch(r.IntN, in, out)
				if n, e := patch.Check(p); e != api.OK || p.In != in || p.Out != out || p.Lifted {
					t.Fatalf("%d and %d bytes: not right at %d: %v", in, out, n, p)
				}
				for _, o := range p.Ops {
					seen[o.Kind] = true
				}
			}
		}
	}
	if len(seen) != 4 {
		t.Errorf("the kinds are %v", seen)
	}
}
