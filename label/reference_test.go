package label_test

import (
	"fmt"
	"math/rand/v2"
	"slices"
	"testing"

	"inlay/api"
)

// maxWords is how many words the longest code has.
const maxWords = 16384

// A row is what the table of chapter 2 says of a word with a target: the distance, in words, and the bits
// that have it. This and what follows is written from the chapters alone, so that it is a second opinion.
type row struct {
	distance int
	bits     uint32
}

// rowOf returns the row of a word with a target.
func rowOf(w uint32) (row, bool) {
	register := w >> 16 & 255
	switch w >> 24 {
	case 5, 6:
		return row{int(int32(w<<8) >> 8), 0x00FFFFFF}, true
	case 7:
		return row{int(int16(w)), 0x0000FFFF}, register < 16
	case 8:
		return row{int(uint16(w)), 0x0000FFFF}, register < 16
	}
	return row{}, false
}

// targetOf returns the number of the word of n words to which the word w, with the number i, is linked.
func targetOf(w uint32, i, n int) (int, bool) {
	r, ok := rowOf(w)
	target := i + r.distance
	return target, ok && target >= 0 && target < n
}

// code returns the bytes of words.
func code(words ...uint32) []byte {
	var b []byte
	for _, w := range words {
		b = append(b, byte(w>>24), byte(w>>16), byte(w>>8), byte(w))
	}
	return b
}

// wordsOf returns the words of code.
func wordsOf(b []byte) []uint32 {
	var l []uint32
	for i := 0; i < len(b); i += 4 {
		l = append(l, uint32(b[i])<<24|uint32(b[i+1])<<16|uint32(b[i+2])<<8|uint32(b[i+3]))
	}
	return l
}

// liftedOf returns the lifted form of words: labels are ticked off at first, and numbered then.
func liftedOf(words []uint32) api.Lifted {
	n := len(words)
	ticked := make([]bool, n)
	for i, w := range words {
		if target, ok := targetOf(w, i, n); ok {
			ticked[target] = true
		}
	}
	var x api.Lifted
	number := map[int]int{}
	for target, yes := range ticked {
		if yes {
			number[target] = len(x.Labels)
			x.Labels = append(x.Labels, 4*target)
		}
	}
	for i, w := range words {
		target, ok := targetOf(w, i, n)
		if ok {
			r, _ := rowOf(w)
			w = w&^r.bits | uint32(number[target])
		}
		x.Words = append(x.Words, w)
		x.Marks = append(x.Marks, ok)
	}
	return x
}

// isRight reports whether x is a lifted form, condition by condition.
func isRight(x api.Lifted) bool {
	n, k := len(x.Words), len(x.Labels)
	if n > maxWords || len(x.Marks) != n {
		return false
	}
	for i, at := range x.Labels {
		if at%4 != 0 || at < 0 || at >= 4*n || i > 0 && at <= x.Labels[i-1] {
			return false
		}
	}
	used := make([]bool, k)
	for i, w := range x.Words {
		if !x.Marks[i] {
			if _, linked := targetOf(w, i, n); linked {
				return false
			}
			continue
		}
		r, ok := rowOf(w)
		index := int(w & r.bits)
		if !ok || index >= k || w>>24 == 8 && x.Labels[index] < 4*i { // all other distances inside of code fit
			return false
		}
		used[index] = true
	}
	return !slices.Contains(used, false)
}

// loweredOf returns the words of which a right x is the lifted form.
func loweredOf(x api.Lifted) []uint32 {
	words := slices.Clone(x.Words)
	for i, marked := range x.Marks {
		if marked {
			r, _ := rowOf(words[i])
			distance := x.Labels[words[i]&r.bits]/4 - i
			words[i] = words[i]&^r.bits | uint32(distance)&r.bits
		}
	}
	return words
}

// formOf returns the form of a right x.
func formOf(x api.Lifted) []byte {
	n, k := len(x.Words), len(x.Labels)
	b := []byte{byte(n / 256), byte(n % 256), byte(k / 256), byte(k % 256)}
	before := 0
	for _, at := range x.Labels {
		d := (at - before) / 4
		b = append(b, byte(d/256), byte(d%256))
		before = at
	}
	for i := 0; i < n; i += 8 {
		var bits byte
		for j := i; j < min(i+8, n); j++ {
			if x.Marks[j] {
				bits += 1 << (j % 8)
			}
		}
		b = append(b, bits)
	}
	return append(b, code(x.Words...)...)
}

// readOf returns what has the form b, if there is something.
func readOf(b []byte) (api.Lifted, bool) {
	if len(b) < 4 {
		return api.Lifted{}, false
	}
	n, k := 256*int(b[0])+int(b[1]), 256*int(b[2])+int(b[3])
	bits := 4 + 2*k
	first := bits + (n+7)/8
	if n > maxWords || len(b) != first+4*n {
		return api.Lifted{}, false
	}
	x := api.Lifted{Words: wordsOf(b[first:])}
	at := 0
	for i := range k {
		at += 4 * (256*int(b[4+2*i]) + int(b[5+2*i]))
		x.Labels = append(x.Labels, at)
	}
	for i := range 8 * ((n + 7) / 8) {
		one := b[bits+i/8]>>(i%8)%2 == 1
		if i >= n && one {
			return api.Lifted{}, false
		}
		if i < n {
			x.Marks = append(x.Marks, one)
		}
	}
	return x, isRight(x)
}

// movedOf returns the words with by words 0 before the word at, if all of them can stand there.
func movedOf(words []uint32, at, by int) ([]uint32, bool) {
	n := len(words)
	if at < 0 || at > n || by < 0 || by > maxWords-n {
		return nil, false
	}
	along := func(i int) int {
		if i >= at {
			return i + by
		}
		return i
	}
	moved := make([]uint32, n+by)
	for i, w := range words {
		target, linked := targetOf(w, i, n)
		if linked {
			r, _ := rowOf(w)
			w = w&^r.bits | uint32(along(target)-along(i))&r.bits
		} else if _, would := targetOf(w, along(i), n+by); would {
			return nil, false
		}
		moved[along(i)] = w
	}
	return moved, true
}

// alphabet has words of all kinds: with targets before them, at them and after them, near and as far away as
// possible, and ones that are no instructions because of their register or their first byte.
var alphabet = []uint32{
	0, 0x01010203, 0x02050001, 0x05FFFFFF, 0x05000000, 0x06000001, 0x067FFFFF, 0x05800000, 0x05010000,
	0x0705FFFE, 0x070F0001, 0x07007FFF, 0x07008000, 0x07100000, 0x080F0000, 0x08000001, 0x0801FFFF, 0x08100000, 0x09000000, 0xFFFFFFFF,
}

// eachCode gives words of code to f: all of up to three words of the alphabet, and others that are longer.
func eachCode(f func(words []uint32)) {
	f(nil)
	for _, a := range alphabet {
		f([]uint32{a})
		for _, b := range alphabet {
			f([]uint32{a, b})
			for _, c := range alphabet {
				f([]uint32{a, b, c})
			}
		}
	}
	r := rand.New(rand.NewPCG(3, 1))
	for n := range 70 {
		for range 8 {
			f(someWords(r, n))
		}
	}
	for _, n := range []int{255, 256, 257, 1000, 16383, maxWords} {
		f(someWords(r, n))
	}
}

// someWords returns n words, most of which have targets near or inside of the code.
func someWords(r *rand.Rand, n int) []uint32 {
	words := make([]uint32, n)
	for i := range words {
		distance := r.IntN(2*n) - n // so that every other target is outside
		if r.IntN(2) == 0 {
			distance = r.IntN(n) - i
		}
		switch r.IntN(8) {
		case 0:
			words[i] = r.Uint32()
		case 1:
			words[i] = alphabet[r.IntN(len(alphabet))]
		case 2, 3, 4:
			words[i] = uint32(5+r.IntN(2))<<24 | uint32(distance)&0x00FFFFFF
		default:
			words[i] = uint32(7+r.IntN(2))<<24 | uint32(r.IntN(17))<<16 | uint32(distance)&0x0000FFFF
		}
	}
	return words
}

// allLinked returns the longest code of which each word is linked, and each place is a target: those of the
// first words are the last places, and those of the last words the first places.
func allLinked() []uint32 {
	words := make([]uint32, maxWords)
	for i := range words {
		switch distance := maxWords - 1 - 2*i; {
		case i%2 == 0:
			words[i] = 0x05000000 | uint32(distance)&0x00FFFFFF
		case i%4 == 1:
			words[i] = 0x07030000 | uint32(distance)&0x0000FFFF
		default:
			words[i] = 0x06000000 | uint32(distance)&0x00FFFFFF
		}
	}
	return words
}

// same reports whether two lifted forms are equal.
func same(a, b api.Lifted) bool {
	return slices.Equal(a.Words, b.Words) && slices.Equal(a.Marks, b.Marks) && slices.Equal(a.Labels, b.Labels)
}

// isEmpty reports whether x is what stands beside an error.
func isEmpty(x api.Lifted) bool {
	return len(x.Words) == 0 && len(x.Marks) == 0 && len(x.Labels) == 0
}

// clone returns x with memory of its own.
func clone(x api.Lifted) api.Lifted {
	return api.Lifted{Words: slices.Clone(x.Words), Marks: slices.Clone(x.Marks), Labels: slices.Clone(x.Labels)}
}

// show returns a lifted form as tests write it.
func show(x api.Lifted) string {
	return fmt.Sprintf("{%08x %v %v}", x.Words, x.Marks, x.Labels)
}

// A tally counts cases, so that a test can tell that it has seen enough of both kinds.
type tally struct{ yes, no int }

func (c *tally) count(yes bool) {
	if yes {
		c.yes++
	} else {
		c.no++
	}
}

func (c *tally) check(t *testing.T, yes, no int) {
	t.Helper()
	if c.yes < yes || c.no < no {
		t.Errorf("only %d cases, and %d of the others", c.yes, c.no)
	}
}
