// Package image is layer 1: it describes the sections of an image, and tells where two images differ.
// See shared/doc/01-image.md. It imports nothing but api, so that it writes numbers and cuts lines itself.
package image

import "inlay/api"

// codeStep divides the places at which sections with code begin and end: the bytes of an instruction.
const codeStep = 4

// Valid reports whether l is a valid list of sections of an image of n bytes.
func Valid(l []api.Section, n int) bool {
	if len(l) > api.MaxSections {
		return false
	}
	end := 0
	for i, s := range l {
		if !isName(s.Name) || hasName(l[:i], s.Name) || !isPlaced(s, end, n) {
			return false
		}
		end = s.To
	}
	return true
}

// Find returns the index of the section of l that has the byte at, or -1.
func Find(l []api.Section, at int) int {
	for i, s := range l {
		if s.From <= at && at < s.To {
			return i
		}
	}
	return -1
}

func isName(s string) bool {
	if len(s) < 1 || len(s) > api.MaxName {
		return false
	}
	for _, c := range s {
		if !isLetter(c) && !isDigit(c) {
			return false
		}
	}
	return true
}

func isLetter(c rune) bool {
	return 'a' <= c && c <= 'z' || 'A' <= c && c <= 'Z'
}

func isDigit(c rune) bool {
	return '0' <= c && c <= '9'
}

func hasName(l []api.Section, name string) bool {
	for _, s := range l {
		if s.Name == name {
			return true
		}
	}
	return false
}

// isPlaced reports whether s may follow a section that ends at end, in an image of n bytes.
func isPlaced(s api.Section, end, n int) bool {
	if s.From < end || s.From >= s.To || s.To > n {
		return false
	}
	return !s.Code || s.From%codeStep == 0 && s.To%codeStep == 0
}
