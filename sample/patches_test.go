package sample_test

import (
	"math/rand/v2"
	"slices"
	"testing"

	"inlay/api"
	"inlay/patch"
	"inlay/sample"
)

func TestWrongPatches(t *testing.T) {
	for _, p := range sample.WrongPatches() {
		if _, e := patch.Check(p); e != api.ErrOp || p.Lifted {
			t.Errorf("%v is right, or lifted", p)
		}
	}
}

func TestLifted(t *testing.T) {
	p := sample.Of(3, 2, sample.Lit(1, 2))
	q := sample.Lifted(p)
	if p.Lifted || !q.Lifted || q.In != 3 || q.Out != 2 || !sample.SameOps(p.Ops, q.Ops) {
		t.Errorf("%v as one of lifted code is %v", p, q)
	}
}

// What is told of a patch is what Symbols returns, also of the longest ones.
func TestTold(t *testing.T) {
	r := rand.New(rand.NewPCG(0, 6))
	for _, in := range []int{0, 1, 2, 3, 255, 256, 257, 1000, api.MaxImage} {
		for _, out := range []int{0, 1, 300, 5000, api.MaxImage} {
			p := sample.Patch(r.IntN, in, out)
			got := sample.Told(in, func(old []byte) []byte { return sample.Must(patch.Apply(old, p)) })
			if !slices.Equal(got, sample.Must(patch.Symbols(p))) {
				t.Fatalf("the symbols %v are told of %v", got, p)
			}
		}
	}
}

func TestOwnMemory(t *testing.T) {
	made := func() api.Patch { return sample.Of(9, 6, sample.Lit(1, 2), sample.Copy(3, 2), sample.Lit(1, 2)) }
	shared, twice := made(), []byte{1, 2, 3, 4}
	calls := 0
	for what, c := range map[string]struct {
		f    func() []api.Patch
		want bool
	}{
		"nothing":                  {func() []api.Patch { return nil }, true},
		"new memory":               {func() []api.Patch { return []api.Patch{made(), made()} }, true},
		"a patch that is kept":     {func() []api.Patch { return []api.Patch{made(), shared} }, false},
		"operations that are kept": {func() []api.Patch { return []api.Patch{sample.Of(9, 6, shared.Ops...)} }, false},
		"data that are kept":       {func() []api.Patch { return []api.Patch{sample.Of(9, 4, sample.Lit(twice...))} }, false},
		"data of two operations": {func() []api.Patch {
			b := []byte{1, 2, 3, 4}
			return []api.Patch{sample.Of(9, 4, sample.Lit(b[:2]...), sample.Lit(b[2:]...))}
		}, false},
		"operations of two patches": {func() []api.Patch {
			ops := []api.Op{sample.Copy(0, 1), sample.Copy(1, 1)}
			return []api.Patch{sample.Of(9, 1, ops[:1]...), sample.Of(9, 1, ops[1:]...)}
		}, false},
		"the same operations": {func() []api.Patch {
			p := sample.Of(9, 1, sample.Copy(0, 1))
			return []api.Patch{p, p}
		}, false},
		"another patch each time": {func() []api.Patch {
			calls++
			return []api.Patch{sample.Of(9, 1, sample.Copy(calls, 1))}
		}, false},
	} {
		if got := sample.OwnMemory(c.f); got != c.want {
			t.Errorf("%s: %v, want %v", what, got, c.want)
		}
		shared, twice = made(), []byte{1, 2, 3, 4}
	}
}
