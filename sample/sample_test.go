package sample_test

import (
	"slices"
	"testing"

	"inlay/sample"
)

// What is missing here would be missing in the tests of the other packages.
func TestEachText(t *testing.T) {
	var got []string
	sample.EachText(2, "a\xff", func(b []byte) { got = append(got, string(b)) })
	if want := []string{"", "a", "aa", "a\xff", "\xff", "\xffa", "\xff\xff"}; !slices.Equal(got, want) {
		t.Errorf("the texts are %q, want %q", got, want)
	}
	for _, c := range []struct {
		n    int
		of   string
		want int
	}{{-1, "ab", 1}, {0, "ab", 1}, {3, "", 1}, {5, "\x00", 6}, {8, "ab", 511}, {4, "abc", 121}} {
		seen := map[string]bool{}
		calls := 0
		sample.EachText(c.n, c.of, func(b []byte) {
			calls++
			seen[string(b)] = true
		})
		if len(seen) != c.want || calls != c.want {
			t.Errorf("%d, %q: %d texts in %d calls, want %d", c.n, c.of, len(seen), calls, c.want)
		}
	}
}
