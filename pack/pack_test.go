package pack_test

import (
	"bytes"
	"encoding/hex"
	"math/rand/v2"
	"slices"
	"strconv"
	"testing"

	"inlay/api"
	"inlay/coder"
	"inlay/pack"
	"inlay/patch"
	"inlay/sample"
)

// The names of what is used most.
var (
	of     = sample.Of
	lifted = sample.Lifted
	copyOf = sample.Copy
	diff   = sample.Diff
	run    = sample.Run
	lit    = sample.Lit
)

// short returns bytes as a text that is not too long for a message.
func short(b []byte) string {
	if len(b) <= 60 {
		return hex.EncodeToString(b)
	}
	return hex.EncodeToString(b[:60]) + ".. (" + strconv.Itoa(len(b)) + " bytes)"
}

// checkBytes checks that p has these bytes, and that they have p.
func checkBytes(t *testing.T, p api.Patch, want []byte) {
	t.Helper()
	if b, e := pack.Pack(p); e != api.OK || !bytes.Equal(b, want) {
		t.Fatalf("the bytes are %s, error %d, want %s", short(b), e, short(want))
	}
	if got, e := pack.Unpack(want); e != api.OK || !sample.Same(got, p) {
		t.Fatalf("the patch of %s is %v, error %d, want %v", short(want), got, e, p)
	}
}

// check compares the bytes of a right patch with those of the reference. The same patch for lifted code is also checked.
func check(t *testing.T, p api.Patch) {
	t.Helper()
	checkBytes(t, p, bytesOf(p))
	p.Lifted = !p.Lifted
	checkBytes(t, p, bytesOf(p))
}

// isEmpty reports whether p is the zero value.
func isEmpty(p api.Patch) bool { return sample.Same(p, api.Patch{}) }

// checkDamage checks that there is no patch with the bytes b.
func checkDamage(t *testing.T, what string, b []byte) {
	t.Helper()
	if p, e := pack.Unpack(b); e != api.ErrDamage || !isEmpty(p) {
		t.Fatalf("%s: the patch of %s is %v, error %d, want ErrDamage", what, short(b), p, e)
	}
}

// mixed is a patch with an operation of each kind.
func mixed() api.Patch {
	return of(65536, 300, copyOf(65000, 200), diff(3, 1, 255), run(7, 95), lit('a', 'b', 'c'))
}

// alternating returns n operations of one byte each.
func alternating(n int) []api.Op {
	return slices.Repeat([]api.Op{copyOf(0, 1), run(0, 1)}, n/2+1)[:n]
}

// somePatches returns right patches that are told from each other by all of their fields, with their descriptions.
func somePatches() map[string]api.Patch {
	return map[string]api.Patch{
		"nothing":                           {},
		"nothing of lifted code":            lifted(of(0, 0)),
		"all bytes away":                    of(3, 0),
		"a Copy":                            of(1, 1, copyOf(0, 1)),
		"a Copy of the last bytes":          of(0x123, 2, copyOf(0x121, 2)),
		"a Diff":                            of(2, 1, diff(1, 1)),
		"a Diff that changes nothing":       of(2, 2, diff(0, 0, 0)),
		"a Run":                             of(0, 5, run(9, 5)),
		"a Run of bytes 0":                  of(0, 0x102, run(0, 0x102)),
		"a Run of bytes 255":                of(0, 1, run(255, 1)),
		"a Lit":                             of(0, 3, lit(1, 2, 3)),
		"a Lit of bytes 0":                  of(0, 2, lit(0, 0)),
		"a Lit that ends with a byte 0":     of(0, 2, lit(5, 0)),
		"a Lit that begins with a byte 0":   of(0, 2, lit(0, 5)),
		"all kinds":                         mixed(),
		"all kinds, the other way":          of(9, 9, lit(4, 5), run(1, 1), diff(8, 9), copyOf(4, 5)),
		"data of several operations":        of(4, 8, lit(1), diff(0, 2, 3), run(2, 2), lit(4, 5), diff(3, 6)),
		"all kinds, of lifted code":         lifted(mixed()),
		"the same operations, again":        of(5, 6, copyOf(2, 3), copyOf(2, 3)),
		"one more than a byte of operation": of(1, 257, alternating(257)...),
	}
}

// P14.1 (N1, N2), P14.8: the examples of the chapter.
func TestExamples(t *testing.T) {
	empty := append(append([]byte{80}, make([]byte, 21)...), 6, 246, 0, 81)
	checkBytes(t, api.Patch{}, empty)
	other := bytes.Clone(empty)
	other[0] = 81
	checkDamage(t, "another first byte", other)
	checkDamage(t, "another first byte, and its sum", withSum(other[:22]))
	checkDamage(t, "no last byte", empty[:25])
	checkDamage(t, "nothing", nil)
	checkDamage(t, "nothing", []byte{})
	if b, e := pack.Pack(of(0, 1)); e != api.ErrOp || len(b) != 0 {
		t.Errorf("a byte of no operations: %x, error %d, want ErrOp", b, e)
	}
}

// P14.1 (N1, N2): bytes that are worked out by hand, but for those of the codes.
func TestBytesByHand(t *testing.T) {
	for what, c := range map[string]struct {
		p          api.Patch
		head       []byte // without the numbers of bytes of the codes
		list, data []byte
	}{
		"nothing of many bytes": {of(0x10000, 0), []byte{80, 0, 1, 0, 0, 0, 0, 0, 0, 0, 0, 0, 0, 0, 0, 0}, nil, nil},
		"all kinds, of lifted code": {lifted(mixed()), []byte{80, 1, 1, 0, 0, 0, 1, 44, 0, 4, 0, 0, 23, 0, 0, 5},
			[]byte{1, 0, 253, 232, 0, 0, 200, 2, 0, 0, 3, 0, 0, 2, 3, 0, 0, 95, 7, 4, 0, 0, 3}, []byte{1, 255, 'a', 'b', 'c'}},
		"the longest Copy": {patch.Whole(65536), []byte{80, 0, 1, 0, 0, 1, 0, 0, 0, 1, 0, 0, 7, 0, 0, 0},
			[]byte{1, 0, 0, 0, 1, 0, 0}, nil},
		"a Copy of the last byte": {of(65536, 1, copyOf(65535, 1)), []byte{80, 0, 1, 0, 0, 0, 0, 1, 0, 1, 0, 0, 7, 0, 0, 0},
			[]byte{1, 0, 255, 255, 0, 0, 1}, nil},
		"a Diff from a place of two bytes": {of(0x2345, 1, diff(0x1234, 7)), []byte{80, 0, 0, 35, 69, 0, 0, 1, 0, 1, 0, 0, 7, 0, 0, 1},
			[]byte{2, 0, 0x12, 0x34, 0, 0, 1}, []byte{7}},
		"the longest Run": {of(0, 65536, run(255, 65536)), []byte{80, 0, 0, 0, 0, 1, 0, 0, 0, 1, 0, 0, 5, 0, 0, 0},
			[]byte{3, 1, 0, 0, 255}, nil},
		"the longest Lit": {of(0, 65536, lit(make([]byte, 65536)...)), []byte{80, 0, 0, 0, 0, 1, 0, 0, 0, 1, 0, 0, 4, 1, 0, 0},
			[]byte{4, 1, 0, 0}, make([]byte, 65536)},
		"as many operations as there may be": {of(0, 4096, slices.Repeat([]api.Op{run(1, 1)}, 4096)...), []byte{80, 0, 0, 0, 0, 0, 16, 0, 16, 0, 0, 80, 0, 0, 0, 0},
			bytes.Repeat([]byte{3, 0, 0, 1, 1}, 4096), nil},
		"the longest list": {of(1, 4096, slices.Repeat([]api.Op{diff(0, 1)}, 4096)...), []byte{80, 0, 0, 0, 1, 0, 16, 0, 16, 0, 0, 112, 0, 0, 16, 0},
			bytes.Repeat([]byte{2, 0, 0, 0, 0, 0, 1}, 4096), bytes.Repeat([]byte{1}, 4096)},
	} {
		one, two := sample.Must(coder.Encode(1, c.list)), sample.Must(coder.Encode(2, c.data))
		want := append(slices.Clone(c.head[:13]), byte(len(one)>>16), byte(len(one)>>8), byte(len(one)))
		want = append(append(want, c.head[13:]...), byte(len(two)>>16), byte(len(two)>>8), byte(len(two)))
		want = withSum(slices.Concat(want, one, two))
		if b, e := pack.Pack(c.p); e != api.OK || !bytes.Equal(b, want) {
			t.Errorf("%s: %s, error %d, want %s", what, short(b), e, short(want))
		}
		checkBytes(t, c.p, want)
	}
}

// P14.1 (N1, N2), P14.2: all patches of at most two short operations, and some others.
func TestShortPatches(t *testing.T) {
	for _, p := range sample.ShortPatches() {
		check(t, p)
	}
	for _, p := range somePatches() {
		check(t, p)
	}
}

// P14.1 (N1, N2), P14.2: random patches of each number of bytes.
func TestRandomPatches(t *testing.T) {
	eachRandom(func(_ *rand.Rand, p api.Patch) { check(t, p) })
}

// eachRandom gives random right patches to f.
func eachRandom(f func(r *rand.Rand, p api.Patch)) {
	r := rand.New(rand.NewPCG(14, 1))
	for in := range 30 {
		for out := range 50 {
			f(r, sample.Patch(r.IntN, in, out))
		}
	}
	for _, in := range []int{0, 255, 256, 1000, 65535, 65536} {
		for _, out := range []int{0, 255, 256, 1000, 65535, 65536} {
			f(r, sample.Patch(r.IntN, in, out))
		}
	}
}

// P14.1 (N1, N2), P14.2, P1: patches with the greatest numbers. The code of data that are hard to tell in advance has
// more bytes than an image.
func TestLimits(t *testing.T) {
	r := rand.New(rand.NewPCG(14, 2))
	all, half := sample.Kinds(r.IntN, 65536, 256), sample.Kinds(r.IntN, 32768, 256)
	for what, p := range map[string]api.Patch{
		"the longest input":                   of(65536, 0),
		"the longest output":                  of(0, 65536, run(9, 65535), lit(9)),
		"the longest Copy":                    patch.Whole(65536),
		"the longest Diff":                    of(65536, 65536, diff(0, all...)),
		"the longest Run":                     of(0, 65536, run(9, 65536)),
		"the longest Lit":                     of(0, 65536, lit(all...)),
		"a Lit and a Diff":                    of(65536, 65536, lit(half...), diff(32768, half...)),
		"as many operations as there may be":  of(1, 4096, alternating(4096)...),
		"as many, with data":                  of(65536, 65536, manyDiffs(all)...),
		"as many, and one long one":           of(1, 65536, append(alternating(4095), run(3, 61441))...),
		"a Copy of the last byte of an image": of(65536, 1, copyOf(65535, 1)),
	} {
		check(t, p)
		if b := sample.Must(pack.Pack(p)); p.Out == 65536 && len(dataOf(p.Ops)) == 65536 && len(b) < 65536 {
			t.Errorf("%s: only %d bytes", what, len(b))
		}
	}
}

// manyDiffs returns 4096 Diffs from all over the input, which have 16 of the data each.
func manyDiffs(data []byte) []api.Op {
	var ops []api.Op
	for i := range 4096 {
		ops = append(ops, diff(i*7919%65521, data[16*i:16*i+16]...))
	}
	return ops
}

// P2, P14.1 (N3): arguments are as before, the same call has the same results, and these are memory of their own.
func TestNothingIsModified(t *testing.T) {
	for what, p := range somePatches() {
		before := sample.Clone(p)
		room := append(bytesOf(p), 1, 2, 3)
		b := room[:len(room)-3]
		for range 2 {
			got := sample.Must(pack.Pack(p))
			if !bytes.Equal(got, b) {
				t.Fatalf("%s: Pack again: %s", what, short(got))
			}
			clear(got[:cap(got)])
		}
		if !sample.OwnMemory(func() []api.Patch { return []api.Patch{sample.Must(pack.Unpack(b))} }) {
			t.Errorf("%s: the memory is shared", what)
		}
		if !sample.Same(p, before) || !bytes.Equal(room, append(bytesOf(p), 1, 2, 3)) {
			t.Errorf("%s: the arguments have changed", what)
		}
	}
}

// P14.6: the sizes of both codes are those of layer 13.
func TestSizes(t *testing.T) {
	compare := func(p api.Patch) {
		one, two := sample.Must(coder.Size(1, listOf(p.Ops))), sample.Must(coder.Size(2, dataOf(p.Ops)))
		if b := sample.Must(pack.Pack(p)); len(b) != 26+one+two {
			t.Fatalf("%v has %d bytes, want 26, %d and %d", p, len(b), one, two)
		}
	}
	for _, p := range sample.ShortPatches() {
		compare(p)
	}
	for _, p := range somePatches() {
		compare(p)
	}
	eachRandom(func(_ *rand.Rand, p api.Patch) { compare(p) })
	// A patch without data has the code of its list only; one of bytes 0 has the empty code of its data.
	for _, p := range []api.Patch{of(9, 4, copyOf(1, 4)), of(0, 4, lit(0, 0, 0, 0))} {
		if b := sample.Must(pack.Pack(p)); len(b) != 26+sample.Must(coder.Size(1, listOf(p.Ops))) {
			t.Errorf("%v has %d bytes", p, len(b))
		}
	}
}

// P14.7: of all inputs, also those of a wrong length, and of lifted code.
func TestEffect(t *testing.T) {
	errors := map[api.Errno]int{}
	compare := func(p api.Patch, old []byte) {
		q := sample.Must(pack.Unpack(sample.Must(pack.Pack(p))))
		want, e := patch.Apply(old, p)
		got, f := patch.Apply(old, q)
		if e != f || !bytes.Equal(got, want) {
			t.Fatalf("%v: %s, error %d, want %s, error %d", p, short(got), f, short(want), e)
		}
		errors[e]++
	}
	eachRandom(func(r *rand.Rand, p api.Patch) {
		old := sample.Kinds(r.IntN, p.In, 256)
		compare(p, old)
		compare(p, append(old, 1))
		compare(lifted(p), old)
		code := sample.Code(r.IntN, r.IntN(10))
		form := formOf(code)
		compare(lifted(sample.Patch(r.IntN, len(form), p.Out)), code)
		compare(lifted(of(len(form), len(form), diff(0, make([]byte, len(form))...))), code)
	})
	for _, e := range []api.Errno{api.OK, api.ErrLength, api.ErrLabel} {
		if errors[e] < 500 {
			t.Errorf("the numbers of errors are %v", errors)
		}
	}
}
