package sample_test

import (
	"bytes"
	"math/rand/v2"
	"slices"
	"testing"

	"inlay/api"
	"inlay/inst"
	"inlay/patch"
	"inlay/sample"
)

// What is missing here would be missing in the tests of the other packages.
func TestEachText(t *testing.T) {
	var got []string
	sample.EachText(2, "a\xff", func(b []byte) { got = append(got, string(b)) })
	if want := []string{"", "a", "aa", "a\xff", "\xff", "\xffa", "\xff\xff"}; !slices.Equal(got, want) {
		t.Errorf("the texts are %q, want %q", got, want)
	}
	for _, c := range []struct {
		n    int
		of   string
		want int
	}{{-1, "ab", 1}, {0, "ab", 1}, {3, "", 1}, {5, "\x00", 6}, {8, "ab", 511}, {4, "abc", 121}} {
		seen := map[string]bool{}
		calls := 0
		sample.EachText(c.n, c.of, func(b []byte) {
			calls++
			seen[string(b)] = true
		})
		if len(seen) != c.want || calls != c.want {
			t.Errorf("%d, %q: %d texts in %d calls, want %d", c.n, c.of, len(seen), calls, c.want)
		}
	}
}

func TestText(t *testing.T) {
	r := rand.New(rand.NewPCG(0, 1))
	for n := range 100 {
		b := sample.Text(r.IntN, n, "a\xff")
		if len(b) != n || bytes.Count(b, []byte("a"))+bytes.Count(b, []byte{255}) != n {
			t.Errorf("%d bytes: %q", n, b)
		}
	}
	if b := sample.Text(r.IntN, 100, "a\xff"); !bytes.Contains(b, []byte("a\xff")) {
		t.Errorf("100 bytes: %q", b)
	}
}

func TestPatch(t *testing.T) {
	r := rand.New(rand.NewPCG(0, 2))
	seen := map[int]bool{}
	for _, in := range []int{0, 1, 2, 10, api.MaxImage} {
		for _, out := range []int{0, 1, 5, 6, 7, 300, 5000, api.MaxImage} {
			for range 5 {
				p := sample.Patch(r.IntN, in, out)
				if n, e := patch.Check(p); e != api.OK || p.In != in || p.Out != out || p.Lifted {
					t.Fatalf("%d and %d bytes: not right at %d: %v", in, out, n, p)
				}
				for _, o := range p.Ops {
					seen[o.Kind] = true
				}
			}
		}
	}
	if len(seen) != 4 {
		t.Errorf("the kinds are %v", seen)
	}
}

func TestSymbols(t *testing.T) {
	r := rand.New(rand.NewPCG(0, 5))
	longest := [5]int{}
	for in := range 40 {
		for n := range 120 {
			l := sample.Symbols(r.IntN, n, in)
			p, e := patch.Of(l, in)
			if e != api.OK || len(l) != n {
				t.Fatalf("%d and %d bytes: %v, error %d", in, n, l, e)
			}
			for _, o := range p.Ops {
				longest[o.Kind] = max(longest[o.Kind], o.Len)
			}
		}
	}
	if min(longest[api.Copy], longest[api.Diff], longest[api.Lit]) < 20 {
		t.Errorf("the longest operations of each kind have %v symbols", longest)
	}
}

func TestMust(t *testing.T) {
	if got := sample.Must(7, api.OK); got != 7 {
		t.Errorf("%d, want 7", got)
	}
	defer func() {
		if recover() != api.ErrArg {
			t.Error("an error is not seen")
		}
	}()
	sample.Must(7, api.ErrArg)
}

func TestClone(t *testing.T) {
	p := api.Patch{Lifted: true, In: 9, Out: 3, Ops: []api.Op{{Kind: api.Run, Len: 1, B: 3}, {Kind: api.Lit, Len: 2, Data: []byte{7, 8}}}}
	q := sample.Clone(p)
	if !sample.Same(p, q) {
		t.Errorf("%v, want %v", q, p)
	}
	q.Ops[0].B, q.Ops[1].Data[1] = 4, 9
	if p.Ops[0].B != 3 || p.Ops[1].Data[1] != 8 {
		t.Error("the memory is shared")
	}
}

func TestCode(t *testing.T) {
	r := rand.New(rand.NewPCG(0, 3))
	seen := map[int]bool{}
	for _, n := range []int{0, 1, 2, 3, 100, 1000, 16384} {
		b := sample.Code(r.IntN, n)
		words, e := inst.Words(b)
		if e != api.OK || len(words) != n {
			t.Fatalf("%d words: %x", n, b)
		}
		for i, w := range words {
			x := inst.Decode(w, 4*i)
			if x.Op == api.Data || x.Op >= api.Jump && (x.N < 0 || x.N >= 4*n) {
				t.Fatalf("%d words: the word %d is %v", n, i, x)
			}
			seen[x.Op] = true
		}
	}
	if len(seen) != 8 {
		t.Errorf("the kinds are %v", seen)
	}
}

func TestSame(t *testing.T) {
	p := func() api.Patch {
		return api.Patch{In: 9, Out: 4, Ops: []api.Op{{Kind: api.Copy, From: 1, Len: 2}, {Kind: api.Run, Len: 1, B: 3}, {Kind: api.Lit, Len: 1, Data: []byte{7}}}}
	}
	if q := p(); !sample.Same(p(), q) {
		t.Error("equal patches are not the same")
	}
	if !sample.Same(api.Patch{Ops: []api.Op{{Data: []byte{}}}}, api.Patch{Ops: []api.Op{{}}}) || !sample.Same(api.Patch{Ops: []api.Op{}}, api.Patch{}) {
		t.Error("nil and empty lists are not the same")
	}
	for i, change := range []func(q *api.Patch){
		func(q *api.Patch) { q.Lifted = true },
		func(q *api.Patch) { q.In++ },
		func(q *api.Patch) { q.Out++ },
		func(q *api.Patch) { q.Ops = q.Ops[:2] },
		func(q *api.Patch) { q.Ops[0].Kind = api.Diff },
		func(q *api.Patch) { q.Ops[0].From++ },
		func(q *api.Patch) { q.Ops[0].Len++ },
		func(q *api.Patch) { q.Ops[1].B++ },
		func(q *api.Patch) { q.Ops[2].Data[0]++ },
	} {
		q := p()
		if change(&q); sample.Same(p(), q) || sample.Same(q, p()) {
			t.Errorf("the change %d is not seen", i)
		}
	}
}

func TestTexts(t *testing.T) {
	r := rand.New(rand.NewPCG(0, 4))
	for _, n := range []int{0, 1, 2, 36, 37, 38, 1000} {
		for what, b := range sample.Texts(r.IntN, n) {
			if len(b) != n {
				t.Errorf("%s: %d bytes, want %d", what, len(b), n)
			}
		}
	}
	for _, kinds := range []int{1, 2, 3, 255, 256} {
		seen := map[byte]bool{}
		for _, b := range sample.Kinds(r.IntN, 10000, kinds) {
			seen[b] = true
		}
		if len(seen) != kinds {
			t.Errorf("%d kinds, want %d", len(seen), kinds)
		}
	}
}
