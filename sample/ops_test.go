package sample_test

import (
	"math/rand/v2"
	"slices"
	"testing"

	"inlay/api"
	"inlay/normal"
	"inlay/patch"
	"inlay/sample"
)

func TestOperations(t *testing.T) {
	old := func(at int, b byte) api.Symbol { return api.Symbol{Old: true, At: at, B: b} }
	for i, c := range []struct {
		l    []api.Symbol
		want []api.Op
	}{
		{[]api.Symbol{old(3, 0)}, []api.Op{sample.Copy(3, 1), sample.Diff(3, 0)}},
		{[]api.Symbol{old(3, 0), old(4, 0)}, []api.Op{sample.Copy(3, 2), sample.Diff(3, 0, 0)}},
		{[]api.Symbol{old(3, 0), old(4, 9)}, []api.Op{sample.Diff(3, 0, 9)}},
		{[]api.Symbol{old(3, 0), old(3, 0)}, nil},
		{[]api.Symbol{old(3, 0), {}}, nil},
		{[]api.Symbol{{}, old(1, 0)}, nil},
		{[]api.Symbol{{B: 7}}, []api.Op{sample.Run(7, 1), sample.Lit(7)}},
		{[]api.Symbol{{B: 7}, {B: 7}}, []api.Op{sample.Run(7, 2), sample.Lit(7, 7)}},
		{[]api.Symbol{{B: 7}, {B: 8}}, []api.Op{sample.Lit(7, 8)}},
	} {
		if got := sample.Operations(c.l); !sample.SameOps(got, c.want) {
			t.Errorf("%d: %v, want %v", i, got, c.want)
		}
	}
}

func TestRuns(t *testing.T) {
	for _, n := range []int{1, 2, 3, 4096} {
		p := sample.Must(normal.Form(sample.Of(0, 10*n, sample.Runs(n))))
		isOther := func(o api.Op) bool { return o.Kind != api.Run || o.Len != 10 }
		if len(p.Ops) != n || slices.ContainsFunc(p.Ops, isOther) {
			t.Errorf("%d runs: %v", n, p)
		}
	}
}

// Each piece is one of the operations that have its symbols, and all kinds and lengths are seen.
func TestAnyOps(t *testing.T) {
	r := rand.New(rand.NewPCG(0, 5))
	seen := map[[2]int]bool{}
	for range 1000 {
		l := sample.Symbols(r.IntN, r.IntN(20), 30)
		for _, o := range sample.AnyOps(r.IntN, l) {
			if o.Len < 1 || o.Len > len(l) {
				t.Fatalf("an operation %v of %v", o, l)
			}
			isSame := func(q api.Op) bool { return sample.SameOps([]api.Op{o}, []api.Op{q}) }
			if !slices.ContainsFunc(sample.Operations(l[:o.Len]), isSame) {
				t.Fatalf("an operation %v of %v", o, l)
			}
			seen[[2]int{o.Kind, o.Len}] = true
			l = l[o.Len:]
		}
		if len(l) > 0 {
			t.Fatalf("the symbols %v are left", l)
		}
	}
	for kind := api.Copy; kind <= api.Lit; kind++ {
		for n := range 6 {
			if n > 0 && !seen[[2]int{kind, n}] {
				t.Errorf("no operation of the kind %d has %d bytes", kind, n)
			}
		}
	}
}

// They are right and different, and there is each pair of operations.
func TestShortPatches(t *testing.T) {
	seen := map[int]int{}
	l := sample.ShortPatches()
	for i, p := range l {
		if n, e := patch.Check(p); e != api.OK || p.Lifted {
			t.Fatalf("not right at %d: %v", n, p)
		}
		if slices.ContainsFunc(l[:i], func(q api.Patch) bool { return sample.Same(p, q) }) {
			t.Fatalf("%v is there twice", p)
		}
		seen[p.In]++
	}
	for in, ops := range []int{4, 7, 13} {
		if want := 1 + ops + ops*ops; seen[in] != want {
			t.Errorf("%d patches for %d bytes, want %d", seen[in], in, want)
		}
	}
}
