// Package sample makes inputs for the tests of the packages, which share it. The program does not use it.
package sample

import "bytes"

// EachText calls f with all texts of up to n bytes, each of which is one of those of the string. They are new memory.
func EachText(n int, of string, f func(b []byte)) {
	var extend func(b []byte)
	extend = func(b []byte) {
		f(b)
		if len(b) >= n {
			return
		}
		for i := range len(of) {
			extend(append(bytes.Clone(b), of[i]))
		}
	}
	extend(nil)
}
