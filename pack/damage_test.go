package pack_test

import (
	"bytes"
	"math/rand/v2"
	"slices"
	"testing"

	"inlay/api"
	"inlay/coder"
	"inlay/pack"
	"inlay/sample"
)

// P14.4: each byte, changed in each way.
func TestChangedBytes(t *testing.T) {
	for what, p := range somePatches() {
		b := bytesOf(p)
		for i := range b {
			for add := 1; add < 256; add++ {
				other := bytes.Clone(b)
				other[i] += byte(add)
				checkDamage(t, what, other)
			}
		}
	}
}

// P14.4: some bytes of long patches, and all those before and behind the codes.
func TestChangedBytesOfLongPatches(t *testing.T) {
	r := rand.New(rand.NewPCG(14, 3))
	for _, p := range []api.Patch{of(65536, 65536, diff(0, sample.Kinds(r.IntN, 65536, 256)...)), of(1, 4096, alternating(4096)...)} {
		b := bytesOf(p)
		places := []int{}
		for i := range 26 {
			places = append(places, i, len(b)-1-i, r.IntN(len(b)), r.IntN(len(b)))
		}
		for _, i := range places {
			for _, add := range []byte{1, 128, 255, byte(1 + r.IntN(255))} {
				other := bytes.Clone(b)
				other[i] += add
				checkDamage(t, "a long patch", other)
			}
		}
	}
}

// P14.3: sums that are the same number modulo 65521, or have the same bytes in another order.
func TestOtherSums(t *testing.T) {
	r := rand.New(rand.NewPCG(14, 6))
	data := sample.Kinds(r.IntN, 550, 256)
	seen := [2]int{}
	for n := 450; n < len(data); n++ { // about as many bytes have the sum 65521
		f := fieldsOf(of(0, n, lit(data[:n]...)))
		for digits := range 511 { // a grows by 1 each
			f.in = 256*max(0, digits-255) + min(255, digits)
			b := f.bytes()
			for half := range 2 { // b, and then a
				i := len(b) - 4 + 2*half
				greater := number(b[i:i+2]) + 65521
				if greater > 65535 {
					continue
				}
				seen[half]++
				other := bytes.Clone(b)
				other[i], other[i+1] = byte(greater>>8), byte(greater)
				checkDamage(t, "a greater sum", other)
			}
		}
	}
	if seen[0] == 0 || seen[1] == 0 {
		t.Errorf("the numbers of sums are %v", seen)
	}
	b := bytesOf(mixed())
	n := len(b) - 4
	for what, end := range map[string][]byte{
		"a before b":               {b[n+2], b[n+3], b[n], b[n+1]},
		"least significant first":  {b[n+1], b[n], b[n+3], b[n+2]},
		"all in the other order":   {b[n+3], b[n+2], b[n+1], b[n]},
		"no sum":                   {0, 0, 0, 0},
		"the sum of nothing":       {0, 0, 0, 1},
		"the sum of one byte less": withSum(b[:n-1])[n-1:],
	} {
		checkDamage(t, what, append(slices.Clone(b[:n]), end...))
	}
}

// P14.5: beginnings, and bytes behind, also with sums of their own.
func TestOtherLengths(t *testing.T) {
	for what, p := range somePatches() {
		b := bytesOf(p)
		body := b[:len(b)-4]
		for i := range b {
			checkDamage(t, what, b[:i])
			if i < len(body) {
				checkDamage(t, what, withSum(body[:i]))
			}
			checkDamage(t, what, append(slices.Clone(b), b[:i+1]...))
			checkDamage(t, what, append(slices.Clone(b), b[i:]...))
		}
		for x := range 256 {
			end := byte(x)
			checkDamage(t, what, append(slices.Clone(b), end))
			checkDamage(t, what, append(slices.Clone(b), end, 0, 0, 0))
			checkDamage(t, what, withSum(append(slices.Clone(b), end)))
			checkDamage(t, what, withSum(append(slices.Clone(body), end)))
			checkDamage(t, what, withSum(append([]byte{end}, body...)))
		}
		checkDamage(t, what, append(slices.Clone(b), make([]byte, 65536)...))
		checkDamage(t, what, withSum(append(slices.Clone(body), make([]byte, 65536)...)))
	}
}

// compare compares what Unpack returns with the reference. It reports whether there is a patch, and checks that it has
// no other bytes.
func compare(t *testing.T, b []byte) bool {
	t.Helper()
	want, ok := patchOf(b)
	if !ok {
		checkDamage(t, "no patch", b)
		return false
	}
	checkBytes(t, want, b)
	return true
}

// P14.1 (N2), P14.3: each byte but those of the sum, changed in many ways, and the sum with it.
func TestChangedBytesWithTheirSums(t *testing.T) {
	r := rand.New(rand.NewPCG(14, 4))
	accepted, refused := 0, 0
	count := func(b []byte) {
		if compare(t, withSum(b)) {
			accepted++
		} else {
			refused++
		}
	}
	for _, p := range somePatches() {
		body := bytesOf(p)
		body = body[:len(body)-4]
		for i := range body {
			for _, add := range []int{1, 2, 4, 128, 254, 255, r.IntN(256), r.IntN(256)} {
				other := bytes.Clone(body)
				other[i] += byte(add)
				count(other)
				other[r.IntN(len(other))] += byte(r.IntN(256))
				count(other)
			}
			if i >= 22 {
				count(append(slices.Clone(body[:i]), body[i+1:]...)) // a byte of a code is missing
			}
		}
	}
	if accepted < 200 || refused < 5000 {
		t.Errorf("only %d were accepted, and %d refused", accepted, refused)
	}
}

// P14.3: patches that differ in one field have other bytes.
func TestDifferentPatches(t *testing.T) {
	seen := map[string]api.Patch{}
	note := func(p api.Patch) {
		b := string(sample.Must(pack.Pack(p)))
		if other, ok := seen[b]; ok && !sample.Same(p, other) {
			t.Fatalf("%v and %v have the same bytes", p, other)
		}
		seen[b] = p
	}
	l := sample.ShortPatches()
	for _, p := range somePatches() {
		l = append(l, p)
	}
	for _, p := range l {
		for more := range 3 {
			q := p
			q.In = min(p.In+more, 65536)
			note(q)
			note(lifted(q))
		}
		for i := range p.Ops {
			for _, o := range nextOps(p.Ops[i], p.In) {
				q := sample.Clone(p)
				q.Ops[i] = o
				note(q)
			}
		}
	}
	if len(seen) < 2000 {
		t.Errorf("only %d patches", len(seen))
	}
}

// nextOps returns right operations for inputs of in bytes that differ from o in one field, or in their kind.
func nextOps(o api.Op, in int) []api.Op {
	var l []api.Op
	switch o.Kind {
	case api.Copy, api.Diff:
		if o.From+o.Len < in {
			next := o
			next.From++
			l = append(l, next)
		}
		if o.Kind == api.Copy {
			l = append(l, diff(o.From, make([]byte, o.Len)...))
		}
	case api.Run:
		l = append(l, run(o.B+1, o.Len), lit(bytes.Repeat([]byte{o.B}, o.Len)...))
	}
	for i := range o.Data {
		next := o
		next.Data = bytes.Clone(o.Data)
		next.Data[i]++
		l = append(l, next)
	}
	return l
}

// P1, P14.1 (N2): any bytes at all, also with the mark and a sum, and numbers that are far too great.
func TestAnyBytes(t *testing.T) {
	r := rand.New(rand.NewPCG(14, 5))
	for n := range 200 {
		for range 20 {
			b := sample.Kinds(r.IntN, n, 256)
			compare(t, b)
			compare(t, withSum(b))
			compare(t, withSum(append([]byte{80, 0}, b...)))
			compare(t, withSum(append([]byte{80, 1, 0, 0, 9, 0, 0, 9, 0, 1}, b...)))
		}
	}
	for _, x := range []byte{0, 1, 80, 255} {
		for _, n := range []int{1, 21, 22, 25, 26, 27, 100, 1 << 20} {
			b := bytes.Repeat([]byte{x}, n)
			checkDamage(t, "equal bytes", b)
			checkDamage(t, "equal bytes, with their sum", withSum(b))
			b[0] = 80
			checkDamage(t, "equal bytes", b)
			if isPatch := compare(t, withSum(b)); isPatch != (x == 0 && n == 22) {
				t.Errorf("%d bytes %d behind the mark: %v", n, x, isPatch)
			}
		}
	}
}

// P14.1 (N2), P14.3: texts that have the same codes, as they end with other numbers of bytes 0, and codes by other models.
func TestOtherCodes(t *testing.T) {
	p := of(9, 14, lit(4, 5, 4, 5), run(1, 1), diff(5, 4, 5, 4, 5), copyOf(4, 5))
	list, data := listOf(p.Ops), dataOf(p.Ops)
	for one := range 3 {
		for two := range 3 {
			f := fieldsOf(p)
			listCode, dataCode := sample.Must(coder.Encode(one, list)), sample.Must(coder.Encode(two, data))
			f.listCode, f.dataCode = len(listCode), len(dataCode)
			f.codes = slices.Concat(listCode, dataCode)
			if one == 1 && two == 2 {
				checkBytes(t, p, f.bytes())
			} else {
				checkDamage(t, "codes by other models", f.bytes())
			}
		}
	}
	for _, p := range somePatches() {
		for _, zeros := range []int{-2, -1, 1, 2, 3, 4, 5, 7, 8, 256, 65536} {
			f := fieldsOf(p)
			f.list += zeros
			compare(t, f.bytes())
			f.count++
			compare(t, f.bytes())
			f.count -= 2
			compare(t, f.bytes())
			f = fieldsOf(p)
			f.data += zeros
			compare(t, f.bytes())
			f.list += zeros
			compare(t, f.bytes())
		}
	}
	// Only the size of a text tells how many bytes 0 it ends with.
	f := fieldsOf(of(0, 2, lit(5, 0)))
	f.data--
	checkDamage(t, "a byte 0 at the end that is missing", f.bytes())
	f.data += 2
	checkDamage(t, "a byte 0 at the end that is too much", f.bytes())
	f = fieldsOf(of(0, 0))
	f.data = 1
	checkDamage(t, "a byte 0 of no operation", f.bytes())
	f = fieldsOf(of(0, 0))
	f.list = 1
	checkDamage(t, "a list of no operation", f.bytes())
	f.count = 1
	checkDamage(t, "an operation of no kind", f.bytes())
}

// P14.1 (N2), P14.3: codes with a byte 0 at their end, which have the same texts.
func TestCodesWithZeros(t *testing.T) {
	for what, p := range somePatches() {
		f := fieldsOf(p)
		f.codes = slices.Insert(f.codes, f.listCode, 0)
		f.listCode++
		checkDamage(t, what, f.bytes())
		f = fieldsOf(p)
		f.codes = append(f.codes, 0)
		f.dataCode++
		checkDamage(t, what, f.bytes())
		// The border between both codes is elsewhere.
		f = fieldsOf(p)
		f.listCode--
		f.dataCode++
		compare(t, f.bytes())
	}
}
