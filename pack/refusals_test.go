package pack_test

import (
	"math"
	"slices"
	"testing"

	"inlay/api"
	"inlay/label"
	"inlay/pack"
	"inlay/sample"
)

// formOf returns the lifted form of code, as bytes.
func formOf(code []byte) []byte {
	return label.Form(sample.Must(label.Lift(code)))
}

// wrongOps returns operations that are wrong for inputs of 3 bytes. Some are wrong only in what is not written.
func wrongOps() map[string]api.Op {
	return map[string]api.Op{
		"no kind":                        {Len: 3},
		"a kind that there is not":       {Kind: 5, Len: 3},
		"a negative kind":                {Kind: -1, Len: 3},
		"a kind that is written as Run":  {Kind: 256 + api.Run, Len: 3},
		"a kind that is written as Copy": {Kind: -255, Len: 3},
		"a Copy beyond the input":        copyOf(1, 3),
		"a Copy before the input":        copyOf(-1, 3),
		"a Copy that is too long":        copyOf(0, 4),
		"a Copy of nothing":              copyOf(1, 0),
		"a Copy that is written as one":  copyOf(1<<24, 3),
		"a long Copy, written as one":    copyOf(0, 1<<24+3),
		"a Copy with a byte":             {Kind: api.Copy, Len: 3, B: 1},
		"a Copy with data":               {Kind: api.Copy, Len: 3, Data: []byte{1, 2, 3}},
		"a Diff beyond the input":        diff(1, 1, 2, 3),
		"a Diff of nothing":              diff(1),
		"a Diff with a byte":             {Kind: api.Diff, Len: 3, B: 1, Data: []byte{1, 2, 3}},
		"a Diff with too few data":       {Kind: api.Diff, Len: 3, Data: []byte{1, 2}},
		"a Diff with too many data":      {Kind: api.Diff, Len: 3, Data: []byte{1, 2, 3, 4}},
		"a Diff without data":            {Kind: api.Diff, Len: 3},
		"a Run of nothing":               run(7, 0),
		"a Run of less than nothing":     run(7, -3),
		"a Run from a place":             {Kind: api.Run, From: 1, Len: 3},
		"a Run with data":                {Kind: api.Run, Len: 3, Data: []byte{1, 2, 3}},
		"a Run that is too long":         run(7, 65537),
		"a long Run, written as one":     run(7, 1<<24+3),
		"the longest Run":                run(7, math.MaxInt),
		"the shortest Run":               run(7, math.MinInt),
		"a Lit of nothing":               lit(),
		"a Lit from a place":             {Kind: api.Lit, From: 1, Len: 3, Data: []byte{1, 2, 3}},
		"a Lit with a byte":              {Kind: api.Lit, Len: 3, B: 1, Data: []byte{1, 2, 3}},
		"a Lit with too few data":        {Kind: api.Lit, Len: 3, Data: []byte{1, 2}},
		"a Lit with too many data":       {Kind: api.Lit, Len: 3, Data: []byte{1, 2, 3, 4}},
		"a Lit that is too long":         lit(make([]byte, 65537)...),
	}
}

// wrongPatches returns patches that are wrong, with their descriptions.
func wrongPatches() map[string]api.Patch {
	l := map[string]api.Patch{
		"a byte too few":                      of(3, 4, copyOf(0, 3)),
		"a byte too much":                     of(3, 2, copyOf(0, 3)),
		"nothing of a byte":                   of(0, 1),
		"a byte of nothing":                   of(0, 0, run(1, 1)),
		"a negative input":                    of(-1, 3, run(1, 3)),
		"a negative output":                   of(3, -3),
		"an input that is too long":           of(65537, 3, run(1, 3)),
		"an input that is written as 3":       of(1<<24+3, 3, copyOf(0, 3)),
		"an output that is too long":          of(3, 65537, run(1, 65536), run(1, 1)),
		"an output that is written as 3":      of(3, 1<<24+3, copyOf(0, 3)),
		"too many operations":                 of(1, 4097, alternating(4097)...),
		"operations that are written as none": of(1, 65536, slices.Repeat([]api.Op{run(1, 1)}, 65536)...),
		"an input that is written as 0":       of(1<<24, 3, copyOf(1<<24-3, 3)),
		"the greatest input":                  of(math.MaxInt, 0),
		"the greatest output":                 of(0, math.MaxInt),
		"the least input":                     of(math.MinInt, 0),
		"the least output":                    of(0, math.MinInt),
	}
	for what, o := range wrongOps() {
		l[what] = of(3, 3, o)
		l[what+", of its length"] = of(3, o.Len, o)
		l[what+", behind another one"] = of(3, 4, copyOf(0, 1), o)
		l[what+", before another one"] = of(3, 4, o, copyOf(0, 1))
	}
	return l
}

// eachWrong gives wrong patches to f, with and without Lifted.
func eachWrong(f func(what string, p api.Patch)) {
	for what, p := range wrongPatches() {
		f(what, p)
		f(what+", of lifted code", lifted(p))
	}
	for _, p := range sample.WrongPatches() {
		f("wrong", p)
		f("wrong, of lifted code", lifted(p))
	}
}

// P14.8, P14.1 (N1): patches that are wrong for each reason, with and without Lifted.
func TestRefusedPatches(t *testing.T) {
	refuse := func(what string, p api.Patch) {
		if b, e := pack.Pack(p); e != api.ErrOp || len(b) != 0 {
			t.Errorf("%s: %s, error %d, want ErrOp", what, short(b), e)
		}
	}
	eachWrong(refuse)
}

// isWritten reports whether the numbers of p have no more bytes than there are for them, so that all are written.
func isWritten(p api.Patch) bool {
	isSize := func(n int) bool { return 0 <= n && n < 1<<24 }
	if !isSize(p.In) || !isSize(p.Out) || len(p.Ops) >= 1<<16 || len(dataOf(p.Ops)) > api.MaxImage {
		return false
	}
	for _, o := range p.Ops {
		if o.Kind < 0 || o.Kind > 255 || !isSize(o.From) || !isSize(o.Len) {
			return false
		}
	}
	return true
}

// P14.8, P14.1 (N2): bytes that are made of wrong patches as if they were right. Where a wrong field is not written,
// the bytes may be those of a right patch, which is another one.
func TestRefusedBytes(t *testing.T) {
	refused := 0
	refuse := func(what string, p api.Patch) {
		if !isWritten(p) {
			return
		}
		b := bytesOf(p)
		if q, e := pack.Unpack(b); e == api.OK && sample.Same(p, q) {
			t.Errorf("%s: the bytes of %v are accepted", what, p)
		}
		if !compare(t, b) {
			refused++
		}
	}
	eachWrong(refuse)
	if refused < 150 {
		t.Errorf("only %d were refused", refused)
	}
}

// P14.1 (N2), P14.3: fields with other numbers, and the sum that belongs to them.
func TestRefusedFields(t *testing.T) {
	for what, change := range map[string]func(f *fields){
		"another mark":                       func(f *fields) { f.mark++ },
		"no mark":                            func(f *fields) { f.mark = 0 },
		"Lifted is 2":                        func(f *fields) { f.lifted = 2 },
		"Lifted is 3":                        func(f *fields) { f.lifted = 3 },
		"Lifted is 255":                      func(f *fields) { f.lifted = 255 },
		"a shorter input":                    func(f *fields) { f.in = 65199 },
		"an input that is too long":          func(f *fields) { f.in = 65537 },
		"the greatest input":                 func(f *fields) { f.in = 1<<24 - 1 },
		"a shorter output":                   func(f *fields) { f.out-- },
		"a longer output":                    func(f *fields) { f.out++ },
		"no output":                          func(f *fields) { f.out = 0 },
		"the greatest output":                func(f *fields) { f.out = 1<<24 - 1 },
		"fewer operations":                   func(f *fields) { f.count-- },
		"more operations":                    func(f *fields) { f.count++ },
		"no operations":                      func(f *fields) { f.count = 0 },
		"as many operations as can be":       func(f *fields) { f.count = 1<<16 - 1 },
		"a shorter list":                     func(f *fields) { f.list-- },
		"a longer list":                      func(f *fields) { f.list++ },
		"no list":                            func(f *fields) { f.list = 0 },
		"one more operation in the list":     func(f *fields) { f.list, f.count = f.list+4, f.count+1 },
		"one less operation in the list":     func(f *fields) { f.list, f.count = f.list-4, f.count-1 },
		"one of no kind, of one byte":        func(f *fields) { f.list, f.count = f.list+1, f.count+1 },
		"the longest list":                   func(f *fields) { f.list = 65536 },
		"the longest list, all operations":   func(f *fields) { f.list, f.count = 65536, 1<<16-1 },
		"a list that is too long":            func(f *fields) { f.list = 65537 },
		"the greatest list":                  func(f *fields) { f.list = 1<<24 - 1 },
		"a shorter code of the list":         func(f *fields) { f.listCode-- },
		"a longer code of the list":          func(f *fields) { f.listCode++ },
		"the border elsewhere":               func(f *fields) { f.listCode, f.dataCode = f.listCode-1, f.dataCode+1 },
		"the border elsewhere, behind":       func(f *fields) { f.listCode, f.dataCode = f.listCode+1, f.dataCode-1 },
		"no code of the list":                func(f *fields) { f.listCode = 0 },
		"everything is the code of the list": func(f *fields) { f.listCode, f.dataCode = len(f.codes), 0 },
		"everything is the code of the data": func(f *fields) { f.listCode, f.dataCode = 0, len(f.codes) },
		"the greatest code of the list":      func(f *fields) { f.listCode = 1<<24 - 1 },
		"the sum is in the code of the list": func(f *fields) { f.listCode += 4 },
		"fewer data":                         func(f *fields) { f.data-- },
		"more data":                          func(f *fields) { f.data++ },
		"no data":                            func(f *fields) { f.data = 0 },
		"the most data":                      func(f *fields) { f.data = 65536 },
		"too many data":                      func(f *fields) { f.data = 65537 },
		"the greatest number of data":        func(f *fields) { f.data = 1<<24 - 1 },
		"a shorter code of the data":         func(f *fields) { f.dataCode-- },
		"a longer code of the data":          func(f *fields) { f.dataCode++ },
		"no code of the data":                func(f *fields) { f.dataCode = 0 },
		"the greatest code of the data":      func(f *fields) { f.dataCode = 1<<24 - 1 },
		"the sum is in the code of the data": func(f *fields) { f.dataCode += 4 },
		"a byte more, which is told":         func(f *fields) { f.codes, f.dataCode = append(f.codes, 1), f.dataCode+1 },
		"a byte more":                        func(f *fields) { f.codes = append(f.codes, 0) },
		"a byte less":                        func(f *fields) { f.codes = f.codes[:len(f.codes)-1] },
		"no codes":                           func(f *fields) { f.codes = nil },
		"the codes in the other order": func(f *fields) {
			f.codes = slices.Concat(f.codes[f.listCode:], f.codes[:f.listCode])
			f.list, f.data = f.data, f.list
			f.listCode, f.dataCode = f.dataCode, f.listCode
		},
	} {
		f := fieldsOf(mixed())
		change(&f)
		checkDamage(t, what, f.bytes())
		if _, ok := patchOf(f.bytes()); ok {
			t.Errorf("%s: the reference has a patch", what)
		}
	}
}

// P14.1 (N2): fields with other numbers that are right, too.
func TestOtherFields(t *testing.T) {
	for _, c := range []struct {
		change func(f *fields)
		want   api.Patch
	}{
		{func(*fields) {}, mixed()},
		{func(f *fields) { f.in = 65200 }, of(65200, 300, mixed().Ops...)}, // no more than the Copy needs
		{func(f *fields) { f.lifted = 1 }, lifted(mixed())},
	} {
		f := fieldsOf(mixed())
		c.change(&f)
		checkBytes(t, c.want, f.bytes())
	}
}
