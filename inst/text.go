package inst

import "inlay/api"

// Print returns the name of a valid instruction and the fields that its kind has, or the empty text.
func Print(x api.Inst) string {
	if !Valid(x) {
		return ""
	}
	k := kinds[x.Op]
	text := []byte(k.name)
	for i, r := range [maxRegisters]int{x.A, x.B, x.C} {
		if i < k.registers {
			text = appendNumber(append(text, ' '), r)
		}
	}
	if k.bits > 0 {
		text = appendNumber(append(text, ' '), x.N)
	}
	return string(text)
}

func appendNumber(text []byte, n int) []byte {
	if n < 0 {
		text, n = append(text, '-'), -n
	}
	if n >= 10 {
		text = appendNumber(text, n/10)
	}
	return append(text, byte('0'+n%10))
}
