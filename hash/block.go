package hash

import "inlay/api"

const (
	blockBytes = 64
	sizeBytes  = 8 // of the number of bits, at the end of the last block
	firstOne   = 0x80
	firstWords = blockBytes / wordBytes
	allWords   = 64
)

// A state has the numbers h0 to h7.
type state [8]word

// start is the state at the beginning.
var start = state{
	0x6a09e667, 0xbb67ae85, 0x3c6ef372, 0xa54ff53a, 0x510e527f, 0x9b05688c, 0x1f83d9ab, 0x5be0cd19,
}

// constants are the numbers k0 to k63.
var constants = [allWords]word{
	0x428a2f98, 0x71374491, 0xb5c0fbcf, 0xe9b5dba5, 0x3956c25b, 0x59f111f1, 0x923f82a4, 0xab1c5ed5,
	0xd807aa98, 0x12835b01, 0x243185be, 0x550c7dc3, 0x72be5d74, 0x80deb1fe, 0x9bdc06a7, 0xc19bf174,
	0xe49b69c1, 0xefbe4786, 0x0fc19dc6, 0x240ca1cc, 0x2de92c6f, 0x4a7484aa, 0x5cb0a9dc, 0x76f988da,
	0x983e5152, 0xa831c66d, 0xb00327c8, 0xbf597fc7, 0xc6e00bf3, 0xd5a79147, 0x06ca6351, 0x14292967,
	0x27b70a85, 0x2e1b2138, 0x4d2c6dfc, 0x53380d13, 0x650a7354, 0x766a0abb, 0x81c2c92e, 0x92722c85,
	0xa2bfe8a1, 0xa81a664b, 0xc24b8b70, 0xc76c51a3, 0xd192e819, 0xd6990624, 0xf40e3585, 0x106aa070,
	0x19a4c116, 0x1e376c08, 0x2748774c, 0x34b0bcb5, 0x391c0cb3, 0x4ed8aa4a, 0x5b9cca4f, 0x682e6ff3,
	0x748f82ee, 0x78a5636f, 0x84c87814, 0x8cc70208, 0x90befffa, 0xa4506ceb, 0xbef9a3f7, 0xc67178f2,
}

// padded returns the last blocks of a list of n bytes, which begin with those of rest.
func padded(rest []byte, n int) []byte {
	end := append(make([]byte, 0, 2*blockBytes), rest...)
	end = append(end, firstOne)
	for len(end)%blockBytes != blockBytes-sizeBytes {
		end = append(end, 0)
	}
	bits := byteBits * uint64(n)
	for i := sizeBytes - 1; i >= 0; i-- {
		end = append(end, byte(bits>>(byteBits*i)))
	}
	return end
}

// wordsOf returns the numbers w0 to w63 of the block that b begins with.
func wordsOf(b []byte) [allWords]word {
	var w [allWords]word
	for t := range firstWords {
		w[t] = wordOf(b[wordBytes*t:])
	}
	for t := firstWords; t < allWords; t++ {
		x, y := w[t-15], w[t-2]
		w[t] = w[t-16] + spread(x.ror, 7, 18, x>>3) + w[t-7] + spread(y.ror, 17, 19, y>>10)
	}
	return w
}

// after returns the state after the block that block begins with. It calls ror itself, as it would take twice the time
// with a function value for each rotation.
func (s state) after(block []byte) state {
	w := wordsOf(block)
	a, b, c, d, e, f, g, h := s[0], s[1], s[2], s[3], s[4], s[5], s[6], s[7]
	for t := range w {
		u := h + (e.ror(6) ^ e.ror(11) ^ e.ror(25)) + (e&f ^ ^e&g) + constants[t] + w[t]
		v := (a.ror(2) ^ a.ror(13) ^ a.ror(22)) + (a&b ^ a&c ^ b&c)
		h, g, f, e, d, c, b, a = g, f, e, d+u, c, b, a, u+v
	}
	return state{s[0] + a, s[1] + b, s[2] + c, s[3] + d, s[4] + e, s[5] + f, s[6] + g, s[7] + h}
}

// sum returns the bytes of the state.
func (s state) sum() api.Sum {
	var sum api.Sum
	for i := range sum {
		shift := byteBits * (wordBytes - 1 - i%wordBytes)
		sum[i] = byte(s[i/wordBytes] >> shift)
	}
	return sum
}
