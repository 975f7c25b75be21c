package hash_test

import (
	"bytes"
	"crypto/sha256"
	"encoding/hex"
	"math/rand/v2"
	"slices"
	"strings"
	"testing"

	"inlay/api"
	"inlay/hash"
	"inlay/sample"
)

// sumFrom returns the hash with these hexadecimal digits.
func sumFrom(t *testing.T, digits string) api.Sum {
	t.Helper()
	b, e := hex.DecodeString(digits)
	if e != nil || len(b) != len(api.Sum{}) {
		t.Fatalf("%s is no hash", digits)
	}
	return api.Sum(b)
}

// checkSum compares the hash of b with that of the library.
func checkSum(t *testing.T, what string, b []byte) {
	t.Helper()
	if got, want := hash.Sum(b), api.Sum(sha256.Sum256(b)); got != want {
		t.Fatalf("%s, %d bytes: the hash is %x, want %x", what, len(b), got, want)
	}
}

// P15.1 (O1): hashes that are published with the standard, and the examples of the chapter.
func TestPublishedSums(t *testing.T) {
	for _, c := range []struct{ text, want string }{
		{"", "e3b0c44298fc1c149afbf4c8996fb92427ae41e4649b934ca495991b7852b855"},
		{"abc", "ba7816bf8f01cfea414140de5dae2223b00361a396177a9cb410ff61f20015ad"},
		{"abcdbcdecdefdefgefghfghighijhijkijkljklmklmnlmnomnopnopq", "248d6a61d20638b8e5c026930c3e6039a33ce45964ff2167f6ecedd419db06c1"},
		{
			"abcdefghbcdefghicdefghijdefghijkefghijklfghijklmghijklmnhijklmnoijklmnopjklmnopqklmnopqrlmnopqrsmnopqrstnopqrstu",
			"cf5b16a778af8380036ce59e7b0492370b249b11e8f07a51afac45037afee9d1",
		},
		{strings.Repeat("a", 1000000), "cdc76e5c9914fb9281a1c7e284d73e67f1809a48a497200e046d39ccc7112cd0"},
	} {
		if got := hash.Sum([]byte(c.text)); got != sumFrom(t, c.want) {
			t.Errorf("%d bytes: the hash is %x, want %s", len(c.text), got, c.want)
		}
	}
}

// P15.1 (O1): all lengths of a few blocks, as the bytes added behind depend on them.
func TestSumsOfAllLengths(t *testing.T) {
	r := rand.New(rand.NewPCG(15, 1))
	for n := range 520 {
		for what, b := range sample.Texts(r.IntN, n) {
			checkSum(t, what, b)
		}
	}
}

// P15.1 (O1): lengths around the ends of blocks of long texts.
func TestSumsOfLongTexts(t *testing.T) {
	r := rand.New(rand.NewPCG(15, 2))
	long := sample.Kinds(r.IntN, 1<<17+64, 256)
	for _, n := range []int{1000, 4096, 8192, 65536, 1 << 17} {
		for more := -10; more <= 64; more++ {
			checkSum(t, "a long text", long[:n+more])
		}
	}
}

// P15.1 (O1): each bit counts, in any block.
func TestChangedBits(t *testing.T) {
	r := rand.New(rand.NewPCG(15, 3))
	for _, n := range []int{1, 55, 56, 64, 200} {
		b := sample.Kinds(r.IntN, n, 256)
		seen := map[api.Sum]bool{hash.Sum(b): true}
		for i := range 8 * n {
			b[i/8] ^= 1 << (i % 8)
			checkSum(t, "another bit", b)
			seen[hash.Sum(b)] = true
			b[i/8] ^= 1 << (i % 8)
		}
		if len(seen) != 8*n+1 {
			t.Errorf("%d bytes: %d hashes, want %d", n, len(seen), 8*n+1)
		}
	}
}

// P15.1 (O1): a list whose number of bits needs more than 32 bits itself.
func TestSumOfManyBits(t *testing.T) {
	checkSum(t, "bytes 0", make([]byte, 1<<29+3))
}

// P15.1 (O2), P15.6: leaves and pairs are hashes of their bytes.
func TestLeavesAndPairs(t *testing.T) {
	r := rand.New(rand.NewPCG(15, 4))
	for n := range 300 {
		b := sample.Kinds(r.IntN, n, 256)
		if got, want := hash.Leaf(b), hash.Sum(slices.Concat([]byte{0}, b)); got != want || want != leafOf(b) {
			t.Errorf("the leaf of %x is %x, want %x", b, got, want)
		}
		x, y := sumOf(b), anySum(r)
		for _, c := range [][2]api.Sum{{x, y}, {y, x}, {x, x}, {x, {}}, {{}, y}} {
			got, want := hash.Pair(c[0], c[1]), hash.Sum(slices.Concat([]byte{1}, c[0][:], c[1][:]))
			if got != want || want != pairOf(c[0], c[1]) {
				t.Errorf("the pair of %x is %x, want %x", c, got, want)
			}
		}
	}
	long := sample.Kinds(r.IntN, 100000, 256)
	if got := hash.Leaf(long); got != leafOf(long) {
		t.Errorf("the leaf of a long chunk is %x", got)
	}
	empty := sumFrom(t, "6e340b9cffb37a989ca544e6bb780a2c78901d3fb33738768511a30617afa01d")
	if hash.Leaf(nil) != empty || hash.Leaf([]byte{}) != empty {
		t.Errorf("the leaf of no bytes is %x", hash.Leaf(nil))
	}
}

// P15.6: pairs depend on the order, and a chunk with the bytes of both is no pair.
func TestNoPairs(t *testing.T) {
	a, b := hash.Leaf([]byte("a")), hash.Leaf([]byte("b"))
	both := slices.Concat(a[:], b[:])
	all := map[api.Sum]bool{
		hash.Pair(a, b): true, hash.Pair(b, a): true, hash.Pair(a, a): true, hash.Leaf(both): true, hash.Sum(both): true,
		hash.Leaf(slices.Concat([]byte{1}, both)): true, hash.Sum([]byte("a")): true, a: true, b: true,
	}
	if len(all) != 9 {
		t.Errorf("only %d of 9 hashes are different", len(all))
	}
}

// P15.6, P2: where bytes come from, what stands around them, and how much room is behind them does not count.
func TestWhereBytesAre(t *testing.T) {
	r := rand.New(rand.NewPCG(15, 5))
	for _, n := range []int{0, 1, 31, 32, 33, 54, 55, 56, 63, 64, 65, 119, 120, 128, 300} {
		b := sample.Kinds(r.IntN, n, 256)
		sum, leaf := sumOf(b), leafOf(b)
		around := sample.Kinds(r.IntN, n+300, 256)
		for from := range 130 {
			before := bytes.Clone(around)
			copy(around[from:], b)
			copy(before[from:], b)
			part := around[from : from+n]
			if hash.Sum(part) != sum || hash.Leaf(part) != leaf || hash.Sum([]byte(string(part))) != sum {
				t.Errorf("%d bytes from %d on have another hash", n, from)
			}
			if !bytes.Equal(around, before) {
				t.Fatalf("%d bytes from %d on: bytes around them changed", n, from)
			}
		}
	}
	if hash.Sum(nil) != hash.Sum([]byte{}) {
		t.Error("no bytes have two hashes")
	}
}

// anySum returns random bytes as a hash.
func anySum(r *rand.Rand) api.Sum {
	return api.Sum(sample.Kinds(r.IntN, len(api.Sum{}), 256))
}
