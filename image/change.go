package image

import "inlay/api"

// Changed returns the ranges of the places at which a and b differ.
func Changed(a, b []byte) []api.Range {
	var l []api.Range
	for r := range differences(a, b) {
		l = append(l, r)
	}
	return l
}

// differences yields the ranges in which a and b differ, each as long as possible, in order. It looks
// only at places that both have, so that it does not panic when the lengths differ.
func differences(a, b []byte) func(yield func(api.Range) bool) {
	return func(yield func(api.Range) bool) {
		n := min(len(a), len(b))
		for from := 0; from < n; from++ {
			if a[from] == b[from] {
				continue
			}
			to := from + 1
			for to < n && a[to] != b[to] {
				to++
			}
			if !yield(api.Range{From: from, To: to}) {
				return
			}
			from = to
		}
	}
}

// Spread returns a with the bytes of the ranges l replaced by those of data.
func Spread(a []byte, l []api.Range, data []byte) ([]byte, api.Errno) {
	if !isRight(l, len(a)) || total(l) != len(data) {
		return nil, api.ErrArg
	}
	out := append([]byte(nil), a...)
	for _, r := range l {
		done := copy(out[r.From:r.To], data)
		data = data[done:]
	}
	return out, api.OK
}

// isRight reports whether the ranges are in order within n bytes, with a byte between any two of them.
func isRight(l []api.Range, n int) bool {
	end := -1 // as if a range had ended before the first byte
	for _, r := range l {
		if r.From <= end || r.From >= r.To || r.To > n {
			return false
		}
		end = r.To
	}
	return true
}

// total returns how many bytes the ranges of a right list have together.
func total(l []api.Range) int {
	n := 0
	for _, r := range l {
		n += r.To - r.From
	}
	return n
}
