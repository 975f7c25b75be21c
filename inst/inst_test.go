package inst_test

import (
	"math"
	"testing"

	"inlay/api"
	"inlay/inst"
)

// places are some places, with the first and the last one.
var places = []int{0, 4, 8, 12, 1000, 32764, 32768, 65532, 65536}

// signed returns n, of which k bits are used, as a number in two's complement.
func signed(n, k int) int {
	if n >= 1<<(k-1) {
		return n - 1<<k
	}
	return n
}

// meaning returns the instruction that a word is, row by row as the table of the chapter has it.
func meaning(w uint32, at int) api.Inst {
	b0, b1, b2, b3 := int(w>>24), int(w>>16&255), int(w>>8&255), int(w&255)
	half, three := 256*b2+b3, 65536*b1+256*b2+b3
	switch {
	case b0 == 1 && b1 < 16 && b2 < 16 && b3 < 16:
		return api.Inst{Op: api.Add, A: b1, B: b2, C: b3}
	case b0 == 3 && b1 < 16 && b2 < 16 && b3 < 16:
		return api.Inst{Op: api.Load, A: b1, B: b2, C: b3}
	case b0 == 4 && b1 < 16 && b2 < 16 && b3 < 16:
		return api.Inst{Op: api.Store, A: b1, B: b2, C: b3}
	case b0 == 2 && b1 < 16:
		return api.Inst{Op: api.Set, A: b1, N: half}
	case b0 == 5:
		return api.Inst{Op: api.Jump, N: at + 4*signed(three, 24)}
	case b0 == 6:
		return api.Inst{Op: api.Call, N: at + 4*signed(three, 24)}
	case b0 == 7 && b1 < 16:
		return api.Inst{Op: api.Branch, A: b1, N: at + 4*signed(half, 16)}
	case b0 == 8 && b1 < 16:
		return api.Inst{Op: api.Pool, A: b1, N: at + 4*half}
	}
	return api.Inst{Op: api.Data, N: int(w)}
}

func hasTarget(op int) bool {
	return op == api.Jump || op == api.Call || op == api.Branch || op == api.Pool
}

// eachWord gives words of all first bytes, with other bytes at their edges, and words from all over to f.
func eachWord(f func(w uint32)) {
	edges := []uint32{0, 1, 2, 14, 15, 16, 17, 31, 127, 128, 129, 240, 254, 255}
	for b0 := range uint32(256) {
		for _, b1 := range edges {
			for _, b2 := range edges {
				for _, b3 := range edges {
					f(b0<<24 | b1<<16 | b2<<8 | b3)
				}
			}
		}
	}
	for w := uint32(0); w < math.MaxUint32-99991; w += 99991 {
		f(w)
		f(w & 0x0FFFFFFF)
		f(w & 0x0F0F0F0F)
	}
}

// P2.1 (B1)
func TestDecode(t *testing.T) {
	for _, c := range []struct {
		w    uint32
		at   int
		want api.Inst
	}{
		{0x01020304, 0, api.Inst{Op: api.Add, A: 2, B: 3, C: 4}},
		{0x01020310, 0, api.Inst{N: 16909072}},
		{0x02010203, 0, api.Inst{Op: api.Set, A: 1, N: 515}},
		{0x02FF0000, 0, api.Inst{N: 0x02FF0000}},
		{0x030F0001, 0, api.Inst{Op: api.Load, A: 15, C: 1}},
		{0x040F0001, 0, api.Inst{Op: api.Store, A: 15, C: 1}},
		{0x05FFFFFF, 8, api.Inst{Op: api.Jump, N: 4}},
		{0x05800000, 65536, api.Inst{Op: api.Jump, N: 65536 - 1<<25}},
		{0x067FFFFF, 65536, api.Inst{Op: api.Call, N: 65536 + 1<<25 - 4}},
		{0x06000000, 12, api.Inst{Op: api.Call, N: 12}},
		{0x0701FFFD, 12, api.Inst{Op: api.Branch, A: 1}},
		{0x070F8000, 0, api.Inst{Op: api.Branch, A: 15, N: -131072}},
		{0x07107FFF, 0, api.Inst{N: 0x07107FFF}},
		{0x08010002, 8, api.Inst{Op: api.Pool, A: 1, N: 16}},
		{0x080FFFFF, 65536, api.Inst{Op: api.Pool, A: 15, N: 65536 + 262140}},
		{0, 4, api.Inst{}},
		{0x00FFFFFF, 4, api.Inst{N: 0x00FFFFFF}},
		{0x09000000, 4, api.Inst{N: 0x09000000}},
		{0xFFFFFFFF, 4, api.Inst{N: 4294967295}},
	} {
		if got := inst.Decode(c.w, c.at); got != c.want {
			t.Errorf("Decode(%08x, %d) = %v, want %v", c.w, c.at, got, c.want)
		}
	}
}

// P2.1 (B1), P2.2, P2.3: each word is what its row says, and is the word of that again.
func TestWordsAndInstructionsDetermineEachOther(t *testing.T) {
	eachWord(func(w uint32) {
		for _, at := range []int{0, 1000, 65536} {
			x := inst.Decode(w, at)
			if x != meaning(w, at) {
				t.Fatalf("Decode(%08x, %d) = %v, want %v", w, at, x, meaning(w, at))
			}
			if got, e := inst.Encode(x, at); got != w || e != api.OK {
				t.Fatalf("Encode(%v, %d) = %08x, %v, want %08x", x, at, got, e, w)
			}
			if !inst.Valid(x) {
				t.Fatalf("%v is not valid", x)
			}
		}
	})
}

// P2.1 (B2)
func TestEncode(t *testing.T) {
	for _, c := range []struct {
		x    api.Inst
		at   int
		want uint32
	}{
		{api.Inst{Op: api.Branch, A: 1}, 12, 0x0701FFFD},
		{api.Inst{Op: api.Add, A: 15, B: 14, C: 13}, 4, 0x010F0E0D},
		{api.Inst{Op: api.Load, A: 1}, 0, 0x03010000},
		{api.Inst{Op: api.Store, C: 1}, 0, 0x04000001},
		{api.Inst{Op: api.Set, A: 7, N: 65535}, 0, 0x0207FFFF},
		{api.Inst{Op: api.Jump, N: -4}, 0, 0x05FFFFFF},
		{api.Inst{Op: api.Call, N: 65536}, 65536, 0x06000000},
		{api.Inst{Op: api.Pool, A: 3, N: 65536}, 0, 0x08034000},
		{api.Inst{N: 0x01020310}, 0, 0x01020310},
		{api.Inst{N: 0x00FFFFFF}, 0, 0x00FFFFFF},
		{api.Inst{N: math.MaxUint32}, 0, 0xFFFFFFFF},
	} {
		if got, e := inst.Encode(c.x, c.at); got != c.want || e != api.OK {
			t.Errorf("Encode(%v, %d) = %08x, %v, want %08x", c.x, c.at, got, e, c.want)
		}
	}
}

// fields are numbers that a field of an instruction may have, beside ones that none may have.
var fields = []int{math.MinInt, -1 << 40, -1 << 32, -65536, -256, -16, -1, 0, 1, 15, 16, 17, 255, 256, 271, 65536, 1 << 24, 1 << 32, 1<<32 + 1, 1 << 40, math.MaxInt}

// numbers are the fields, and numbers at the edges of what N may be.
func numbers() []int {
	l := append([]int{65535, 65537, 0x01020304, 0x02000000, 0x05000000, 0x08FFFFFF, 0x09000000, math.MaxUint32}, fields...)
	for _, edge := range []int{-1 << 25, -1 << 17, -1 << 15, 1 << 15, 1 << 17, 1 << 18, 1 << 25, 65536 + 1<<17, 65536 + 1<<18, 65536 + 1<<25} {
		for d := -8; d <= 8; d++ {
			l = append(l, edge+d)
		}
	}
	return l
}

// eachInst gives instructions, and what is none, to f: of all kinds, with fields up to their edges and beyond.
func eachInst(f func(x api.Inst)) {
	for op := -1; op <= 9; op++ {
		for _, n := range numbers() {
			for _, r := range fields {
				f(api.Inst{Op: op, A: r, N: n})
				f(api.Inst{Op: op, B: r, N: n})
				f(api.Inst{Op: op, A: 15, B: 1, C: r, N: n})
			}
		}
	}
	for _, op := range []int{math.MinInt, -256, -9, 10, 255, 256, 257, 261, 1 << 32, 1<<32 + 1, math.MaxInt} {
		for _, n := range numbers() {
			f(api.Inst{Op: op, N: n})
		}
	}
}

// P2.3, P2.1 (B2), P1: what has a word is decoded to itself; what has none is refused with nothing.
func TestWhatIsEncodedIsDecodedToItself(t *testing.T) {
	accepted, refused := 0, 0
	eachInst(func(x api.Inst) {
		for _, at := range places {
			w, e := inst.Encode(x, at)
			switch {
			case (e == api.OK) != (isInst(x) && fits(x, at)):
				t.Fatalf("Encode(%v, %d) = %08x, %v", x, at, w, e)
			case e == api.OK && inst.Decode(w, at) != x:
				t.Fatalf("Encode(%v, %d) = %08x, which is %v", x, at, w, inst.Decode(w, at))
			case e == api.OK:
				accepted++
			case e != api.ErrInst || w != 0:
				t.Fatalf("Encode(%v, %d) = %08x, %v, want ErrInst", x, at, w, e)
			default:
				refused++
			}
		}
	})
	if accepted < 1000 || refused < 1000 {
		t.Errorf("%d accepted, %d refused", accepted, refused)
	}
}

func inRange(n, from, to int) bool {
	return from <= n && n <= to
}

// isInst reports whether the fields of x are those of its kind, wherever a target is.
func isInst(x api.Inst) bool {
	a, b, c := inRange(x.A, 0, 15), inRange(x.B, 0, 15), inRange(x.C, 0, 15)
	switch x.Op {
	case api.Data:
		return x == api.Inst{N: x.N} && inRange(x.N, 0, math.MaxUint32) && meaning(uint32(x.N), 0).Op == api.Data
	case api.Add, api.Load, api.Store:
		return a && b && c && x.N == 0
	case api.Set:
		return a && x.B == 0 && x.C == 0 && inRange(x.N, 0, 65535)
	case api.Jump, api.Call:
		return x.A == 0 && x.B == 0 && x.C == 0
	case api.Branch, api.Pool:
		return a && x.B == 0 && x.C == 0
	}
	return false
}

// reach returns the least and the greatest distance in bytes that an instruction with a target may have.
func reach(op int) (int, int) {
	switch op {
	case api.Branch:
		return -1 << 17, 1<<17 - 4
	case api.Pool:
		return 0, 1<<18 - 4
	}
	return -1 << 25, 1<<25 - 4
}

// fits reports whether the target of x, if it has one, can be reached from at.
func fits(x api.Inst, at int) bool {
	least, most := reach(x.Op)
	return !hasTarget(x.Op) || x.N%4 == 0 && inRange(x.N, at+least, at+most)
}

// P2.1 (B3), P2.6: for an instruction, there is a place at which it has a word.
func TestValid(t *testing.T) {
	valid := 0
	eachInst(func(x api.Inst) {
		want := isInst(x)
		if hasTarget(x.Op) {
			least, most := reach(x.Op)
			want = want && x.N%4 == 0 && inRange(x.N, least, 65536+most)
		}
		if inst.Valid(x) != want {
			t.Fatalf("Valid(%v) is not %v", x, want)
		}
		if want {
			valid++
		}
	})
	if valid < 500 {
		t.Errorf("only %d are valid", valid)
	}
}

// P2.1 (B3): Valid asks for a place, and each place counts.
func TestValidAsksForSomePlace(t *testing.T) {
	for _, op := range []int{api.Jump, api.Call, api.Branch, api.Pool} {
		least, most := reach(op)
		for _, n := range []int{least - 4, least - 1, least, least + 1, least + 4, -4, -3, 0, 1, 2, 4, 65532, 65535, 65536, 65540, most, most + 4, 65536 + most - 4, 65536 + most, 65536 + most + 1, 65536 + most + 4} {
			x := api.Inst{Op: op, N: n}
			some := false
			for at := 0; at <= api.MaxImage; at += 4 {
				if _, e := inst.Encode(x, at); e == api.OK {
					some = true
				}
			}
			if inst.Valid(x) != some {
				t.Errorf("Valid(%v) is not %v", x, some)
			}
		}
	}
}

// P2.4
func TestMovedWordsHaveMovedTargets(t *testing.T) {
	moved, same := 0, 0
	eachWord(func(w uint32) {
		want := inst.Decode(w, 0)
		for _, at := range []int{4, 32768, 65536} {
			x := inst.Decode(w, at)
			if hasTarget(x.Op) {
				x.N -= at
				moved++
			} else {
				same++
			}
			if x != want {
				t.Fatalf("Decode(%08x, %d) = %v, but %v at 0", w, at, inst.Decode(w, at), want)
			}
		}
	})
	if moved < 1000 || same < 1000 {
		t.Errorf("%d moved, %d the same", moved, same)
	}
}

// P2.5: one target, from all places.
func TestTargetsAreReachedAsLongAsTheyFit(t *testing.T) {
	for _, op := range []int{api.Jump, api.Call, api.Branch, api.Pool} {
		least, most := reach(op)
		for _, n := range []int{-1 << 25, 65536 - 1<<25, -131072, -65536, -4, 0, 4, 32768, 65532, 65536, 131068, 131072, 262140, 262144, 1<<25 - 4, 1 << 25} {
			x := api.Inst{Op: op, N: n}
			for at := 0; at <= api.MaxImage; at += 4 {
				w, e := inst.Encode(x, at)
				if want := inRange(n-at, least, most); (e == api.OK) != want {
					t.Fatalf("Encode(%v, %d) = %08x, %v: fits is %v", x, at, w, e, want)
				}
				if e == api.OK && inst.Decode(w, at) != x {
					t.Fatalf("Encode(%v, %d) = %08x, which is %v", x, at, w, inst.Decode(w, at))
				}
			}
		}
	}
}

// P2.5: at each place, distances up to their edges.
func TestDistancesUpToTheirEdges(t *testing.T) {
	for op, c := range map[int]struct{ least, most, before, after uint32 }{
		api.Jump:   {0x05800000, 0x057FFFFF, 0x05FFFFFF, 0x05000001},
		api.Call:   {0x06800000, 0x067FFFFF, 0x06FFFFFF, 0x06000001},
		api.Branch: {0x07008000, 0x07007FFF, 0x0700FFFF, 0x07000001},
		api.Pool:   {0x08000000, 0x0800FFFF, 0, 0x08000001},
	} {
		least, most := reach(op)
		for _, at := range places {
			for d, want := range map[int]uint32{least: c.least, most: c.most, -4: c.before, 4: c.after, least - 4: 0, most + 4: 0} {
				w, e := inst.Encode(api.Inst{Op: op, N: at + d}, at)
				if w != want || (e == api.OK) != (want != 0) {
					t.Errorf("kind %d at %d with the distance %d: %08x, %v, want %08x", op, at, d, w, e, want)
				}
			}
		}
	}
}

// P2.6, P1
func TestEncodeRefuses(t *testing.T) {
	for what, l := range map[string][]api.Inst{
		"registers above 15": {
			{Op: api.Add, A: 16}, {Op: api.Add, B: 16}, {Op: api.Add, C: 16}, {Op: api.Load, A: 16}, {Op: api.Load, B: 16}, {Op: api.Load, C: 255}, {Op: api.Store, A: 256}, {Op: api.Store, B: 257}, {Op: api.Store, C: 1 << 32},
			{Op: api.Set, A: 16}, {Op: api.Set, A: 256}, {Op: api.Branch, A: 16}, {Op: api.Branch, A: 1 << 40}, {Op: api.Pool, A: 16}, {Op: api.Pool, A: math.MaxInt},
		},
		"registers below 0": {
			{Op: api.Add, A: -1}, {Op: api.Add, B: -1}, {Op: api.Add, C: -256}, {Op: api.Set, A: -1}, {Op: api.Branch, A: -255}, {Op: api.Pool, A: math.MinInt},
		},
		"fields that are not named": {
			{A: 1}, {B: 1}, {C: 1}, {Op: api.Add, N: 1}, {Op: api.Load, N: -1}, {Op: api.Store, N: 1 << 32}, {Op: api.Set, B: 1}, {Op: api.Set, C: 1}, {Op: api.Set, B: -1},
			{Op: api.Jump, A: 1}, {Op: api.Jump, B: 1}, {Op: api.Jump, C: 1}, {Op: api.Call, A: 1}, {Op: api.Call, B: 256}, {Op: api.Call, C: -1}, {Op: api.Branch, B: 1}, {Op: api.Branch, C: 1}, {Op: api.Pool, B: 1}, {Op: api.Pool, C: 1},
		},
		"distances that are no multiples of 4": {
			{Op: api.Jump, N: 1}, {Op: api.Jump, N: 2}, {Op: api.Jump, N: 3}, {Op: api.Jump, N: -1}, {Op: api.Call, N: -2}, {Op: api.Branch, N: 6}, {Op: api.Branch, N: -131071}, {Op: api.Pool, N: 262139}, {Op: api.Pool, N: 1},
		},
		"numbers that are too great": {
			{Op: api.Set, N: 65536}, {Op: api.Set, N: -1}, {Op: api.Jump, N: 1 << 25}, {Op: api.Jump, N: -1<<25 - 4}, {Op: api.Call, N: 1 << 25}, {Op: api.Call, N: -1<<25 - 4}, {Op: api.Branch, N: 1 << 17}, {Op: api.Branch, N: -1<<17 - 4},
			{Op: api.Pool, N: 1 << 18}, {Op: api.Pool, N: -4}, {Op: api.Jump, N: math.MaxInt - 3}, {Op: api.Jump, N: math.MinInt}, {Op: api.Branch, N: 1 << 34}, {Op: api.Pool, N: math.MinInt}, {N: -1}, {N: 1 << 32}, {N: math.MinInt}, {N: math.MaxInt},
		},
		"data that is another instruction": {
			{N: 0x01020304}, {N: 0x02000000}, {N: 0x030F0F0F}, {N: 0x04000000}, {N: 0x05000000}, {N: 0x05FFFFFF}, {N: 0x06FFFFFF}, {N: 0x070F0000}, {N: 0x080FFFFF}, {N: 1<<32 + 0x01020304},
		},
		"unknown kinds": {
			{Op: -1}, {Op: 9}, {Op: 10}, {Op: 255}, {Op: 256}, {Op: 257}, {Op: -255}, {Op: 1 << 32}, {Op: math.MinInt}, {Op: math.MaxInt},
		},
	} {
		for _, x := range l {
			if w, e := inst.Encode(x, 0); w != 0 || e != api.ErrInst {
				t.Errorf("%s: Encode(%v, 0) = %08x, %v, want ErrInst", what, x, w, e)
			}
		}
	}
}

// P1: at other places there is no specified result, but the functions do end.
func TestOtherPlacesEnd(t *testing.T) {
	for _, at := range []int{math.MinInt, -4, -1, 1, 2, 65537, 65540, math.MaxInt} {
		eachInst(func(x api.Inst) { inst.Encode(x, at) })
		for _, w := range []uint32{0, 0x01020304, 0x05FFFFFF, 0x067FFFFF, 0x07008000, 0x0800FFFF, 0xFFFFFFFF} {
			inst.Decode(w, at)
		}
	}
}
