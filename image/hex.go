package image

import "inlay/api"

const hexDigits = "0123456789abcdef"

// Hex returns two lower-case hexadecimal digits for each byte.
func Hex(b []byte) string {
	text := make([]byte, 0, 2*len(b))
	for _, c := range b {
		text = append(text, hexDigits[c>>4], hexDigits[c&15])
	}
	return string(text)
}

// Bytes returns the bytes of which s is the result of Hex.
func Bytes(s string) ([]byte, api.Errno) {
	if len(s)%2 != 0 {
		return nil, api.ErrForm
	}
	b := make([]byte, 0, len(s)/2)
	for i := 0; i < len(s); i += 2 {
		high, highOK := hexValue(s[i])
		low, lowOK := hexValue(s[i+1])
		if !highOK || !lowOK {
			return nil, api.ErrForm
		}
		b = append(b, high<<4|low)
	}
	return b, api.OK
}

func hexValue(c byte) (byte, bool) {
	switch {
	case '0' <= c && c <= '9':
		return c - '0', true
	case 'a' <= c && c <= 'f':
		return c - 'a' + 10, true
	}
	return 0, false
}
