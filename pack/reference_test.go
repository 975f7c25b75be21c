package pack_test

import (
	"hash/adler32"

	"inlay/api"
	"inlay/coder"
	"inlay/patch"
	"inlay/sample"
)

// What follows is written from the chapter alone, the plainest way, so that it is a second opinion.

// three returns a number of 3 bytes.
func three(n int) []byte { return []byte{byte(n / 65536), byte(n / 256), byte(n)} }

// listOf returns the list of operations, which need not be right.
func listOf(ops []api.Op) []byte {
	var l []byte
	for _, o := range ops {
		l = append(l, byte(o.Kind))
		if o.Kind == 1 || o.Kind == 2 {
			l = append(l, three(o.From)...)
		}
		l = append(l, three(o.Len)...)
		if o.Kind == 3 {
			l = append(l, o.B)
		}
	}
	return l
}

// dataOf returns the data of operations.
func dataOf(ops []api.Op) []byte {
	var l []byte
	for _, o := range ops {
		l = append(l, o.Data...)
	}
	return l
}

// fields are what the bytes of a patch have, one after the other.
type fields struct {
	mark, lifted                   byte
	in, out, count                 int
	list, listCode, data, dataCode int // how many bytes each of them has
	codes                          []byte
}

// fieldsOf returns the fields for p, which need not be right.
func fieldsOf(p api.Patch) fields {
	list, data := listOf(p.Ops), dataOf(p.Ops)
	one, two := sample.Must(coder.Encode(1, list)), sample.Must(coder.Encode(2, data))
	f := fields{mark: 'P', in: p.In, out: p.Out, count: len(p.Ops)}
	f.list, f.listCode, f.data, f.dataCode = len(list), len(one), len(data), len(two)
	f.codes = append(append(f.codes, one...), two...)
	if p.Lifted {
		f.lifted = 1
	}
	return f
}

// bytes returns the fields as bytes, and their sum.
func (f fields) bytes() []byte {
	b := []byte{f.mark, f.lifted}
	b = append(append(b, three(f.in)...), three(f.out)...)
	b = append(b, byte(f.count/256), byte(f.count))
	for _, n := range []int{f.list, f.listCode, f.data, f.dataCode} {
		b = append(b, three(n)...)
	}
	return withSum(append(b, f.codes...))
}

// withSum returns b with its sum. It is known elsewhere as Adler-32.
func withSum(b []byte) []byte {
	sum := adler32.Checksum(b)
	return append(b[:len(b):len(b)], byte(sum>>24), byte(sum>>16), byte(sum>>8), byte(sum))
}

// bytesOf returns the bytes of p.
func bytesOf(p api.Patch) []byte { return fieldsOf(p).bytes() }

// number returns the number that bytes are.
func number(b []byte) int {
	n := 0
	for _, x := range b {
		n = 256*n + int(x)
	}
	return n
}

// patchOf returns the right patch with the bytes b, and whether there is one. It reads b without many questions, as
// what it has read must have the bytes b at last.
func patchOf(b []byte) (api.Patch, bool) {
	if len(b) < 26 || len(b) < 26+number(b[13:16]) {
		return api.Patch{}, false
	}
	middle := 22 + number(b[13:16])
	list, e := coder.Decode(1, b[22:middle], number(b[10:13]))
	data, f := coder.Decode(2, b[middle:len(b)-4], number(b[16:19]))
	if e != api.OK || f != api.OK {
		return api.Patch{}, false
	}
	p := api.Patch{Lifted: b[1] == 1, In: number(b[2:5]), Out: number(b[5:8])}
	end := len(list)
	list = append(list, make([]byte, 8)...) // so that there are enough
	for at := 0; at < end; {
		o := api.Op{Kind: int(list[at])}
		at++
		if o.Kind == 1 || o.Kind == 2 {
			o.From = number(list[at : at+3])
			at += 3
		}
		o.Len = number(list[at : at+3])
		at += 3
		if o.Kind == 3 {
			o.B = list[at]
			at++
		}
		if o.Kind == 2 || o.Kind == 4 {
			n := min(o.Len, len(data))
			o.Data, data = data[:n], data[n:]
		}
		p.Ops = append(p.Ops, o)
	}
	if _, e := patch.Check(p); e != api.OK || string(bytesOf(p)) != string(b) {
		return api.Patch{}, false
	}
	return p, true
}
