package pack

import "bytes"

const (
	sumModulus  = 65521
	halfSumSize = 2
	sumSize     = 2 * halfSumSize
)

// sumOf returns the sum of b.
func sumOf(b []byte) []byte {
	first, second := 1, 0
	for _, x := range b {
		first = (first + int(x)) % sumModulus
		second = (second + first) % sumModulus
	}
	w := &writer{}
	w.put(halfSumSize, second, first)
	return w.written
}

// withoutSum returns the bytes before the sum, and panics if b does not end with their sum.
func withoutSum(b []byte) []byte {
	n := len(b) - sumSize
	demand(n >= 0 && bytes.Equal(b[n:], sumOf(b[:n])))
	return b[:n]
}
