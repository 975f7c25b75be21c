package patch_test

import (
	"bytes"
	"math/rand/v2"
	"slices"
	"testing"

	"inlay/api"
	"inlay/label"
	"inlay/patch"
	"inlay/sample"
)

// P6.1 (F3): symbols for an input of three bytes.
func TestRun(t *testing.T) {
	old := func(at int, b byte) api.Symbol { return api.Symbol{Old: true, At: at, B: b} }
	for what, c := range map[string]struct {
		l    []api.Symbol
		want []byte
		e    api.Errno
	}{
		"nothing":                       {nil, nil, api.OK},
		"all places":                    {[]api.Symbol{old(0, 0), old(1, 0), old(2, 0)}, []byte{1, 2, 255}, api.OK},
		"in another order, and again":   {[]api.Symbol{old(2, 0), old(0, 0), old(2, 0)}, []byte{255, 1, 255}, api.OK},
		"with bytes added":              {[]api.Symbol{old(0, 1), old(1, 255), old(2, 1), old(2, 255)}, []byte{2, 1, 0, 254}, api.OK},
		"bytes":                         {[]api.Symbol{{B: 0}, {B: 9}, {B: 255}}, []byte{0, 9, 255}, api.OK},
		"bytes, with places":            {[]api.Symbol{{At: 1, B: 5}, {At: 3, B: 6}, {At: -1, B: 7}, {At: 1 << 62}}, []byte{5, 6, 7, 0}, api.OK},
		"a place after the input":       {[]api.Symbol{old(3, 0)}, nil, api.ErrLength},
		"a place before the input":      {[]api.Symbol{{B: 1}, old(-1, 0)}, nil, api.ErrLength},
		"a place far away":              {[]api.Symbol{old(0, 0), old(1<<62, 0), old(0, 0)}, nil, api.ErrLength},
		"a place far before":            {[]api.Symbol{old(-1<<63, 0), old(0, 0)}, nil, api.ErrLength},
		"a place that is wrong at last": {[]api.Symbol{old(0, 0), old(1, 0), old(2, 0), old(3, 1)}, nil, api.ErrLength},
	} {
		got, e := patch.Run([]byte{1, 2, 255}, c.l)
		if e != c.e || !bytes.Equal(got, c.want) {
			t.Errorf("%s: %v, error %d, want %v, error %d", what, got, e, c.want, c.e)
		}
	}
	if got, e := patch.Run(nil, []api.Symbol{old(0, 0)}); e != api.ErrLength || len(got) > 0 {
		t.Errorf("no input: %v, error %d", got, e)
	}
}

// P6.1 (F3): more bytes than an image has.
func TestRunOfManySymbols(t *testing.T) {
	input := inputOf(100000)
	var l []api.Symbol
	var want []byte
	for i := range 200000 {
		l = append(l, api.Symbol{Old: i%2 == 0, At: i / 2, B: byte(i / 3)})
		b := byte(i / 3)
		if i%2 == 0 {
			b += input[i/2]
		}
		want = append(want, b)
	}
	if got, e := patch.Run(input, l); e != api.OK || !bytes.Equal(got, want) {
		t.Errorf("error %d, or other bytes", e)
	}
}

// F7, P2
func TestRunModifiesNothing(t *testing.T) {
	old := inputOf(10)
	l := []api.Symbol{{Old: true, At: 3, B: 4}, {B: 7}, {Old: true, At: 9}}
	before := slices.Clone(l)
	got, _ := patch.Run(old, l)
	want := bytes.Clone(got)
	clear(got)
	again, e := patch.Run(old, l)
	if !slices.Equal(l, before) || !bytes.Equal(old, inputOf(10)) || e != api.OK || !bytes.Equal(again, want) {
		t.Errorf("the arguments have changed, or the second result %v is another one than %v", again, want)
	}
}

// compareApply compares Apply with the reference. It returns the error.
func compareApply(t *testing.T, old []byte, p api.Patch) api.Errno {
	t.Helper()
	got, e := patch.Apply(old, p)
	if want, f := applyOf(old, p); e != f || !bytes.Equal(got, want) {
		t.Fatalf("Apply of %v to %x: %x, error %d, want %x, error %d", p, old, got, e, want, f)
	}
	return e
}

// P6.1 (F4), P6.2, P6.8
func TestApply(t *testing.T) {
	errors := map[api.Errno]int{}
	eachPatch(func(p api.Patch) {
		old := inputOf(min(max(p.In, 0), 65536))
		e := compareApply(t, old, p)
		errors[e]++
		errors[compareApply(t, append(old, 1), p)]++
		if len(old) > 0 {
			errors[compareApply(t, old[1:], p)]++
		}
		if e != api.OK {
			return
		}
		l := mustSymbols(t, p)
		output := mustApply(t, old, p)
		if b, e := patch.Run(old, l); e != api.OK || !bytes.Equal(b, output) || len(l) != p.Out || len(output) != p.Out {
			t.Fatalf("%v makes %v, but its symbols %v", p, output, b)
		}
	})
	if len(errors) != 3 || errors[api.OK] < 2000 || errors[api.ErrLength] < 2000 || errors[api.ErrOp] < 10000 {
		t.Errorf("the numbers of errors are %v", errors)
	}
}

// formOf returns the lifted form of code, as bytes.
func formOf(t *testing.T, b []byte) []byte {
	t.Helper()
	x, e := label.Lift(b)
	if e != api.OK {
		t.Fatalf("Lift of %x: error %d", b, e)
	}
	return label.Form(x)
}

// P6.7: what copies everything gives the code again, and refuses what is no code, or has a form of another length.
func TestLiftedWhole(t *testing.T) {
	r := rand.New(rand.NewPCG(6, 2))
	for _, n := range []int{0, 1, 2, 3, 8, 9, 100, 1000, 9000} {
		b := sample.Code(r.IntN, n)
		p := patch.Whole(len(formOf(t, b)))
		p.Lifted = true
		if got := mustApply(t, b, p); !bytes.Equal(got, b) {
			t.Fatalf("%d words: %x, want %x", n, got, b)
		}
		for more := 1; more <= 3; more++ {
			if got, e := patch.Apply(append(bytes.Clone(b), make([]byte, more)...), p); e != api.ErrLabel || len(got) > 0 {
				t.Errorf("%d words and %d bytes: %x, error %d, want ErrLabel", n, more, got, e)
			}
		}
		if got, e := patch.Apply(append(bytes.Clone(b), 0, 0, 0, 0), p); e != api.ErrLength || len(got) > 0 {
			t.Errorf("%d words, and one more: %x, error %d, want ErrLength", n, got, e)
		}
	}
}

// P6.1 (F4), P6.7: a patch of forms makes other code of code.
func TestLiftedPatches(t *testing.T) {
	r := rand.New(rand.NewPCG(6, 3))
	for range 300 {
		old, other := sample.Code(r.IntN, r.IntN(20)), sample.Code(r.IntN, r.IntN(20))
		from, to := formOf(t, old), formOf(t, other)
		p := api.Patch{Lifted: true, In: len(from), Out: len(to), Ops: []api.Op{{Kind: api.Lit, Len: len(to), Data: to}}}
		if got := mustApply(t, old, p); !bytes.Equal(got, other) {
			t.Fatalf("%x: %x, want %x", old, got, other)
		}
		if n := min(len(from), len(to)); n > 0 {
			p.Ops = []api.Op{{Kind: api.Diff, Len: n, Data: difference(to[:n], from)}}
			if len(to) > n {
				p.Ops = append(p.Ops, api.Op{Kind: api.Lit, Len: len(to) - n, Data: to[n:]})
			}
			if got := mustApply(t, old, p); !bytes.Equal(got, other) {
				t.Fatalf("%x: %x, want %x", old, got, other)
			}
		}
	}
}

// difference returns what has to be added to the bytes of b to get those of a.
func difference(a, b []byte) []byte {
	d := make([]byte, len(a))
	for i := range a {
		d[i] = a[i] - b[i]
	}
	return d
}

// P6.1 (F4), P6.7: one byte of a form is changed, and any patch of the right length is applied.
func TestLiftedOutputs(t *testing.T) {
	r := rand.New(rand.NewPCG(6, 4))
	errors := map[api.Errno]int{}
	for range 300 {
		old := sample.Code(r.IntN, 1+r.IntN(12))
		n := len(formOf(t, old))
		for i := range n {
			d := make([]byte, n)
			d[i] = byte(1 + r.IntN(255))
			errors[compareApply(t, old, api.Patch{Lifted: true, In: n, Out: n, Ops: []api.Op{{Kind: api.Diff, Len: n, Data: d}}})]++
		}
		p := sample.Patch(r.IntN, n, r.IntN(2*n))
		p.Lifted = true
		errors[compareApply(t, old, p)]++
		p.In++
		errors[compareApply(t, old, p)]++
	}
	if len(errors) != 3 || errors[api.OK] < 1000 || errors[api.ErrLabel] < 1000 || errors[api.ErrLength] < 300 {
		t.Errorf("the numbers of errors are %v", errors)
	}
}

// P6.1 (F4): which error is first.
func TestErrorsOfApply(t *testing.T) {
	run := func(n int) []api.Op { return []api.Op{{Kind: api.Run, Len: n}} }
	for what, c := range map[string]struct {
		old  []byte
		p    api.Patch
		want api.Errno
	}{
		"wrong, and of another length":               {make([]byte, 2), api.Patch{In: 3, Out: 1}, api.ErrOp},
		"wrong, and no code":                         {make([]byte, 3), api.Patch{Lifted: true, In: 3, Out: 1}, api.ErrOp},
		"no code, and of another length":             {make([]byte, 3), api.Patch{Lifted: true, In: 5, Out: 1, Ops: run(1)}, api.ErrLabel},
		"no code, but of the length":                 {make([]byte, 3), api.Patch{Lifted: true, In: 3, Out: 1, Ops: run(1)}, api.ErrLabel},
		"too long for code":                          {make([]byte, 65540), api.Patch{Lifted: true, In: 5, Out: 1, Ops: run(1)}, api.ErrLabel},
		"code of the length, but not its form":       {make([]byte, 4), api.Patch{Lifted: true, In: 4, Out: 1, Ops: run(1)}, api.ErrLength},
		"another length, and the output is no form":  {make([]byte, 4), api.Patch{Lifted: true, In: 8, Out: 1, Ops: run(1)}, api.ErrLength},
		"a form that is longer than any input":       {make([]byte, 65536), api.Patch{Lifted: true, In: 65536, Out: 4, Ops: run(4)}, api.ErrLength},
		"the output is no form":                      {make([]byte, 4), api.Patch{Lifted: true, In: 9, Out: 1, Ops: run(1)}, api.ErrLabel},
		"the output is nothing":                      {make([]byte, 4), api.Patch{Lifted: true, In: 9}, api.ErrLabel},
		"the output is the form of nothing":          {make([]byte, 4), api.Patch{Lifted: true, In: 9, Out: 4, Ops: run(4)}, api.OK},
		"the same, of nothing":                       {nil, api.Patch{Lifted: true, In: 4, Out: 4, Ops: run(4)}, api.OK},
		"nothing, whose form has bytes":              {nil, api.Patch{Lifted: true}, api.ErrLength},
		"nothing of nothing, with Lifted false":      {nil, api.Patch{}, api.OK},
		"a byte of nothing":                          {nil, api.Patch{Out: 1, Ops: run(1)}, api.OK},
		"the longest output":                         {nil, api.Patch{Out: 65536, Ops: run(65536)}, api.OK},
		"the longest input":                          {make([]byte, 65536), api.Patch{In: 65536}, api.OK},
		"no code, but Lifted is false":               {make([]byte, 3), api.Patch{In: 3, Out: 1, Ops: run(1)}, api.OK},
		"longer than the limit, of a patch for less": {make([]byte, 65537), api.Patch{In: 65536}, api.ErrLength},
	} {
		got, e := patch.Apply(c.old, c.p)
		if e != c.want || e != api.OK && len(got) > 0 || !c.p.Lifted && e == api.OK && !bytes.Equal(got, make([]byte, c.p.Out)) {
			t.Errorf("%s: %d bytes, error %d, want error %d", what, len(got), e, c.want)
		}
		compareApply(t, c.old, c.p)
	}
}

// F7, P2: with lifted code too.
func TestApplyModifiesNothing(t *testing.T) {
	b := sample.Code(rand.New(rand.NewPCG(6, 5)).IntN, 30)
	p := patch.Whole(len(formOf(t, b)))
	p.Lifted = true
	before := bytes.Clone(b)
	clear(mustApply(t, b, p))
	if !bytes.Equal(b, before) || !bytes.Equal(mustApply(t, b, p), before) {
		t.Error("the code has changed")
	}
}
