package label

import "inlay/api"

// Moved returns the code b with words 0, as many as by says, before the word at, whose linked words have
// targets that moved along. Lifted, only labels change; Lower refuses what is then not right any more: that
// a distance does not fit, or that a word that was not linked would be.
func Moved(b []byte, at, by int) ([]byte, api.Errno) {
	x, e := Lift(b)
	if e != api.OK || at < 0 || at > len(x.Words) || by < 0 || by > maxWords-len(x.Words) {
		return nil, api.ErrLabel
	}
	return Lower(api.Lifted{
		Words:  putIn(x.Words, at, by),
		Marks:  putIn(x.Marks, at, by),
		Labels: moveLabels(x.Labels, wordSize*at, wordSize*by),
	})
}

// putIn returns l with as many zero values as by says before the index at.
func putIn[T any](l []T, at, by int) []T {
	out := make([]T, len(l)+by)
	copy(out, l[:at])
	copy(out[at+by:], l[at:])
	return out
}

// moveLabels returns the labels, of which those from the place from on are greater by by.
func moveLabels(labels []int, from, by int) []int {
	var l []int
	for _, at := range labels {
		if at >= from {
			at += by
		}
		l = append(l, at)
	}
	return l
}
