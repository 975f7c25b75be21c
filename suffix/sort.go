package suffix

// sortPlaces sorts l by merging, which is fast for all texts, and needs few steps where l is in order already:
// most of it is after the first rounds.
func sortPlaces(l []int, isBefore func(i, j int) bool) {
	sortWith(make([]int, len(l)/2), l, isBefore)
}

// sortWith sorts l. In spare there must be room for the first half of it.
func sortWith(spare, l []int, isBefore func(i, j int) bool) {
	if len(l) < 2 {
		return
	}
	half := len(l) / 2
	sortWith(spare, l[:half], isBefore)
	sortWith(spare, l[half:], isBefore)
	if isBefore(l[half], l[half-1]) {
		merge(spare, l, half, isBefore)
	}
}

// merge sorts l, of which the elements before half and those from there on are sorted. Only the first ones are
// copied: what is written never gets past what was not read yet of the others.
func merge(spare, l []int, half int, isBefore func(i, j int) bool) {
	first := spare[:copy(spare, l[:half])]
	second := l[half:]
	for k := 0; len(first) > 0; k++ {
		if len(second) > 0 && isBefore(second[0], first[0]) {
			l[k], second = second[0], second[1:]
		} else {
			l[k], first = first[0], first[1:]
		}
	}
}
