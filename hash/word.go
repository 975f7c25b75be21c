package hash

const (
	wordBits  = 32
	byteBits  = 8
	wordBytes = wordBits / byteBits
)

// A word is a number of the description.
type word uint32

// ror rotates x to the right by n bits. The remainders make it one instruction of most processors.
func (x word) ror(n uint) word { return x>>(n%wordBits) | x<<(-n%wordBits) }

// spread returns s0 or s1 of the description: two rotations of a word and the shifted word, bit by bit modulo 2.
func spread(rotated func(n uint) word, i, j uint, shifted word) word {
	return rotated(i) ^ rotated(j) ^ shifted
}

// wordOf returns the word whose bytes b begins with.
func wordOf(b []byte) word {
	x := word(0)
	for _, c := range b[:wordBytes] {
		x = x<<byteBits | word(c)
	}
	return x
}
