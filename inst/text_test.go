package inst_test

import (
	"math"
	"testing"

	"inlay/api"
	"inlay/inst"
)

// P2.1 (B5)
func TestPrint(t *testing.T) {
	for want, x := range map[string]api.Inst{
		"data 0":            {},
		"data 9":            {N: 9},
		"data 16909072":     {N: 16909072},
		"data 4294967295":   {N: math.MaxUint32},
		"add 2 3 4":         {Op: api.Add, A: 2, B: 3, C: 4},
		"add 0 0 0":         {Op: api.Add},
		"set 1 500":         {Op: api.Set, A: 1, N: 500},
		"set 15 65535":      {Op: api.Set, A: 15, N: 65535},
		"load 10 9 0":       {Op: api.Load, A: 10, B: 9},
		"store 0 15 10":     {Op: api.Store, B: 15, C: 10},
		"jump -4":           {Op: api.Jump, N: -4},
		"jump -33554432":    {Op: api.Jump, N: -1 << 25},
		"jump 33619964":     {Op: api.Jump, N: 65536 + 1<<25 - 4},
		"call 0":            {Op: api.Call},
		"call 100":          {Op: api.Call, N: 100},
		"call -20":          {Op: api.Call, N: -20},
		"branch 1 0":        {Op: api.Branch, A: 1},
		"branch 11 -131072": {Op: api.Branch, A: 11, N: -131072},
		"branch 0 -100":     {Op: api.Branch, N: -100},
		"branch 15 196604":  {Op: api.Branch, A: 15, N: 65536 + 1<<17 - 4},
		"pool 1 16":         {Op: api.Pool, A: 1, N: 16},
		"pool 15 327676":    {Op: api.Pool, A: 15, N: 65536 + 1<<18 - 4},
	} {
		if got := inst.Print(x); got != want {
			t.Errorf("Print(%v) = %q, want %q", x, got, want)
		}
	}
}

// P2.1 (B5), P2.8: what is valid has a text of its own, and all else has none.
func TestTextsTellInstructionsApart(t *testing.T) {
	of := map[string]api.Inst{}
	check := func(x api.Inst) {
		text := inst.Print(x)
		if (text != "") != inst.Valid(x) {
			t.Fatalf("Print(%v) = %q, but valid is %v", x, text, inst.Valid(x))
		}
		if y, there := of[text]; there && text != "" && x != y {
			t.Fatalf("%v and %v have the text %q", x, y, text)
		}
		of[text] = x
	}
	eachInst(check)
	for op := range 9 {
		for a := range 16 {
			for n := -200; n <= 200; n++ {
				check(api.Inst{Op: op, A: a, N: n})
				check(api.Inst{Op: op, N: 4 * n * (a + 1)})
			}
			for r := range 256 {
				check(api.Inst{Op: op, A: a, B: r / 16, C: r % 16})
			}
		}
	}
	if len(of) < 10000 {
		t.Errorf("only %d texts", len(of))
	}
}

// P2
func TestResultsAreThoseOfTheCallBefore(t *testing.T) {
	x := api.Inst{Op: api.Branch, A: 1, N: 4}
	for range 3 {
		w, e := inst.Encode(x, 12)
		if w != 0x0701FFFE || e != api.OK || inst.Decode(w, 12) != x || inst.Print(x) != "branch 1 4" || !inst.Valid(x) {
			t.Errorf("Encode(%v, 12) = %08x, %v", x, w, e)
		}
		inst.Encode(api.Inst{Op: 9}, 0)
		inst.Decode(0xFFFFFFFF, 65536)
	}
}
