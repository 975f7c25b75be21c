package inst

import "inlay/api"

const (
	wordSize     = 4  // bytes of a word
	wordBits     = 32 // bits of a word
	maxRegister  = 15
	maxRegisters = 3 // registers of an instruction
)

// A kind says what the instructions with one Op have. Beside those of Data, the first byte of their words is
// Op, and then come the registers; the number has the last bits.
type kind struct {
	name      string
	registers int
	bits      int // of the number
	signed    bool
	target    bool // the number is the distance from the place to N, in words
}

var kinds = [...]kind{
	api.Data:   {name: "data", bits: wordBits},
	api.Add:    {name: "add", registers: 3},
	api.Set:    {name: "set", registers: 1, bits: 16},
	api.Load:   {name: "load", registers: 3},
	api.Store:  {name: "store", registers: 3},
	api.Jump:   {name: "jump", bits: 24, signed: true, target: true},
	api.Call:   {name: "call", bits: 24, signed: true, target: true},
	api.Branch: {name: "branch", registers: 1, bits: 16, signed: true, target: true},
	api.Pool:   {name: "pool", registers: 1, bits: 16, target: true},
}

// number returns the number that the word w of this kind has.
func (k kind) number(w word) int {
	read := w.low
	if k.signed {
		read = w.lowSigned
	}
	return read(k.bits)
}

type word uint32

// op returns the Op of the instruction that the word is.
func (w word) op() int {
	op := w.octet(0)
	if op >= len(kinds) {
		return api.Data
	}
	for i := range kinds[op].registers {
		if w.octet(1+i) > maxRegister {
			return api.Data
		}
	}
	return op
}

// octet returns the byte i of the word, of which 0 is the most significant one.
func (w word) octet(i int) int {
	return int(byte(w >> (wordBits - 8 - 8*i)))
}

// low returns the last n bits, as a number without a sign.
func (w word) low(n int) int {
	return int(w << (wordBits - n) >> (wordBits - n))
}

// lowSigned returns the last n bits, as a number in two's complement.
func (w word) lowSigned(n int) int {
	return int(int32(w<<(wordBits-n)) >> (wordBits - n))
}
