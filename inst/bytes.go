package inst

import "inlay/api"

// Words returns the words of b, of which the most significant byte comes first.
func Words(b []byte) ([]uint32, api.Errno) {
	if len(b)%wordSize != 0 {
		return nil, api.ErrLength
	}
	l := make([]uint32, 0, len(b)/wordSize)
	for ; len(b) > 0; b = b[wordSize:] {
		l = append(l, uint32(b[0])<<24|uint32(b[1])<<16|uint32(b[2])<<8|uint32(b[3]))
	}
	return l, api.OK
}

// Bytes returns the bytes of words.
func Bytes(l []uint32) []byte {
	b := make([]byte, 0, wordSize*len(l))
	for _, w := range l {
		b = append(b, byte(w>>24), byte(w>>16), byte(w>>8), byte(w))
	}
	return b
}
