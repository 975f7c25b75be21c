package split_test

import (
	"bytes"
	"math/rand/v2"
	"slices"
	"testing"

	"inlay/api"
	"inlay/match"
	"inlay/normal"
	"inlay/patch"
	"inlay/sample"
	"inlay/split"
)

// eachPatch calls f with random patches that are not lifted ones, of short operations and of long ones.
func eachPatch(f func(r *rand.Rand, p api.Patch)) {
	r := rand.New(rand.NewPCG(12, 1))
	for out := range 60 {
		for range 25 {
			in := r.IntN(out + 2)
			f(r, sample.Patch(r.IntN, in, out))
			f(r, of(in, out, sample.AnyOps(r.IntN, sample.Symbols(r.IntN, out, in))...))
		}
	}
	long := []int{0, 1, 5000, 65535, 65536}
	for _, in := range long {
		for _, out := range long {
			f(r, sample.Patch(r.IntN, in, out))
		}
	}
}

// anySections returns sections of n bytes. Some of them are side by side, and some have code.
func anySections(r *rand.Rand, n int) []api.Section {
	var l []int
	shorter := 1 + r.IntN(8)
	for end := 0; end < n && len(l) < 2*api.MaxSections && r.IntN(9) > 0; {
		from := end
		if r.IntN(2) == 0 {
			from += r.IntN((n - end + shorter - 1) / shorter)
		}
		end = from + 1 + r.IntN((n-from+shorter-1)/shorter)
		l = append(l, from, end)
	}
	sections := at(l...)
	for i, s := range sections {
		sections[i].Code = s.From%4 == 0 && s.To%4 == 0 && r.IntN(2) == 0
	}
	return sections
}

// anySize returns a size of sectors. Most outputs of patches have some of them.
func anySize(r *rand.Rand, p api.Patch) int {
	return 1 + r.IntN(min(p.Out+2, api.MaxSector))
}

// eachList calls f with random lists of patches for the same inputs. In many of them operations go on in the next patch.
func eachList(f func(r *rand.Rand, l []api.Patch)) {
	r := rand.New(rand.NewPCG(12, 2))
	for most := range 40 {
		for range 50 {
			in, isLifted := r.IntN(most+2), r.IntN(2) == 0
			symbols := sample.Symbols(r.IntN, r.IntN(3*most+1), in)
			l := cutInto(r, symbols, in, 1+r.IntN(6))
			if r.IntN(2) == 0 {
				l = append(l, sample.Patch(r.IntN, in, r.IntN(most+1)))
			}
			for i := range l {
				l[i].Lifted = isLifted
			}
			f(r, l)
		}
	}
	for _, in := range []int{0, 1, 5000, 65536} {
		f(r, list(sample.Patch(r.IntN, in, 30000), sample.Patch(r.IntN, in, 0), sample.Patch(r.IntN, in, 35536)))
	}
}

// cutInto returns n patches whose symbols are those of l, one after the other.
func cutInto(r *rand.Rand, l []api.Symbol, in, n int) []api.Patch {
	ends := make([]int, n)
	for i := range ends {
		ends[i] = r.IntN(len(l) + 1)
	}
	slices.Sort(ends)
	ends[n-1] = len(l)
	var patches []api.Patch
	from := 0
	for _, to := range ends {
		patches = append(patches, of(in, to-from, sample.AnyOps(r.IntN, l[from:to])...))
		from = to
	}
	return patches
}

// anyInput returns an input for p.
func anyInput(r *rand.Rand, p api.Patch) []byte {
	return sample.Kinds(r.IntN, p.In, 256)
}

// P12.2: of any input, a part makes the bytes of its section.
func TestPartsOfSections(t *testing.T) {
	sections, withCode := 0, 0
	eachPatch(func(r *rand.Rand, p api.Patch) {
		l := anySections(r, p.Out)
		parts, e := split.Split(p, l)
		if e == api.ErrBig {
			return
		}
		if e != api.OK || len(parts) != len(l) {
			t.Fatalf("%v, in the sections %v: %d parts, error %d", p, l, len(parts), e)
		}
		old := anyInput(r, p)
		made := applied(old, p)
		for i, s := range l {
			got, e := patch.Apply(old, parts[i])
			if e != api.OK || !bytes.Equal(got, made[s.From:s.To]) || parts[i].In != p.In {
				t.Fatalf("the part %v of %v for %v makes %x of %x, error %d, want %x", parts[i], p, s, got, old, e, made[s.From:s.To])
			}
			sections++
			if s.Code {
				withCode++
			}
		}
	})
	if sections < 8000 || withCode < 200 {
		t.Errorf("only %d sections, %d of them with code", sections, withCode)
	}
}

// P12.3: of any input, the parts make the output, each a sector of it; joined, they are the form, or have as many
// operations too many. There are no parts of no output.
func TestPartsOfSectors(t *testing.T) {
	compare := func(r *rand.Rand, p api.Patch, size int) {
		parts, e := split.Sectors(p, size)
		if e != api.OK || len(parts) != (p.Out+size-1)/size {
			t.Fatalf("%v, in sectors of %d bytes: %d parts, error %d", p, size, len(parts), e)
		}
		old := anyInput(r, p)
		var made []byte
		for i, part := range parts {
			if part.Out != min(size, p.Out-size*i) {
				t.Fatalf("the part %d of %v for sectors of %d bytes has %d bytes", i, p, size, part.Out)
			}
			made = append(made, sample.Must(patch.Apply(old, part))...)
		}
		if want := applied(old, p); !bytes.Equal(made, want) {
			t.Fatalf("the parts of %v for sectors of %d bytes make %x of %x, want %x", p, size, made, old, want)
		}
		joined, e := split.Join(parts)
		want, f := normal.Form(p)
		if p.Out == 0 {
			want, f = api.Patch{}, api.ErrArg
		}
		if e != f || !sample.Same(joined, want) {
			t.Fatalf("%v, joined of sectors of %d bytes: %v, error %d, want %v, error %d", p, size, joined, e, want, f)
		}
	}
	eachPatch(func(r *rand.Rand, p api.Patch) {
		compare(r, p, anySize(r, p))
	})
	r := rand.New(rand.NewPCG(12, 3))
	for _, p := range list(chapterP, bridged(), of(0, 40960, sample.Runs(4096)), of(0, 40970, sample.Runs(4097)), patch.Whole(65536)) {
		for _, size := range []int{1, 7, 256, 4096} {
			compare(r, p, size)
		}
	}
}

// P12.4: of any input, the joined patch makes what the patches make, one after the other.
func TestJoinedOutputs(t *testing.T) {
	eachList(func(r *rand.Rand, l []api.Patch) {
		joined, e := split.Join(l)
		if e == api.ErrBig {
			return
		}
		old := anyInput(r, l[0])
		var want []byte
		for _, p := range l {
			want = append(want, applied(old, p)...)
		}
		if e != api.OK || joined.Lifted != l[0].Lifted || joined.In != l[0].In || !bytes.Equal(applied(old, joined), want) {
			t.Fatalf("%v: %v, error %d, which does not make %x of %x", l, joined, e, want, old)
		}
	})
}

// groups joins the patches of l in groups of some of them, which are joined in groups themselves.
func groups(r *rand.Rand, l []api.Patch) (api.Patch, api.Errno) {
	if len(l) == 1 && r.IntN(2) == 0 {
		return l[0], api.OK
	}
	var joined []api.Patch
	for from := 0; from < len(l) && len(l) > 1; {
		n := 1 + r.IntN(min(len(l)-from, len(l)-1))
		p, e := groups(r, l[from:from+n])
		if e != api.OK {
			return api.Patch{}, e
		}
		joined = append(joined, p)
		from += n
	}
	if len(l) == 1 {
		joined = l
	}
	return split.Join(joined)
}

// P12.4: in any groups, if each of them can be joined.
func TestGroups(t *testing.T) {
	grouped := 0
	eachList(func(r *rand.Rand, l []api.Patch) {
		if len(l) == 1 {
			return
		}
		want, e := split.Join(l)
		got, f := groups(r, l)
		if f == api.ErrBig {
			return
		}
		if e != f || !sample.Same(got, want) {
			t.Fatalf("%v: %v, error %d, and in groups %v, error %d", l, want, e, got, f)
		}
		grouped++
	})
	if grouped < 1700 {
		t.Errorf("only %d lists are joined in groups", grouped)
	}
}

// P12.4, with L3: a group may have too many operations, though all patches together have few enough.
func TestTooManyOfAGroup(t *testing.T) {
	first, last := of(7, 4101, append(alternating(4095), diff(0, 1, 0, 0, 0, 0, 0))...), of(7, 1, diff(6, 1))
	if p, e := split.Join(list(first, of(7, 0))); e != api.ErrBig {
		t.Errorf("the first group: %d operations, error %d, want ErrBig", len(p.Ops), e)
	}
	all := sample.Must(split.Join(list(first, of(7, 0), last)))
	if p := sample.Must(split.Join(list(first, sample.Must(split.Join(list(of(7, 0), last)))))); !sample.Same(p, all) {
		t.Errorf("in other groups: %v, want %v", p, all)
	}
	if !sample.Same(all, bridged()) {
		t.Errorf("all of them: %v", all)
	}
}

// P12.4: pieces of a patch of lifted code, of which most make no form.
func TestJoinedCode(t *testing.T) {
	r := rand.New(rand.NewPCG(12, 4))
	for range 300 {
		old, made := sample.Code(r.IntN, r.IntN(40)), sample.Code(r.IntN, r.IntN(40))
		p := sample.Must(match.Code(old, made))
		l := cutInto(r, sample.Must(patch.Symbols(p)), p.In, 1+r.IntN(5))
		for i := range l {
			l[i].Lifted = true
		}
		joined, e := checkJoin(t, l)
		if got, f := patch.Apply(old, joined); e != api.OK || f != api.OK || !bytes.Equal(got, made) {
			t.Fatalf("%v: %v, error %d, which makes %x of %x, error %d, want %x", l, joined, e, got, old, f, made)
		}
	}
}

// P12.5: joined patches, against all of them.
func TestCostsOfJoined(t *testing.T) {
	cheaper := 0
	eachList(func(_ *rand.Rand, l []api.Patch) {
		joined, e := split.Join(l)
		if e == api.ErrBig {
			return
		}
		sum := 0
		for _, p := range l {
			sum += patch.Cost(p)
		}
		if patch.Cost(joined) > sum {
			t.Fatalf("%v cost %d, and joined, as %v, %d", l, sum, joined, patch.Cost(joined))
		}
		if forms := costOfForms(l); forms < patch.Cost(joined) {
			t.Fatalf("the forms of %v cost %d, and joined, as %v, they cost %d", l, forms, joined, patch.Cost(joined))
		} else if forms > patch.Cost(joined) {
			cheaper++
		}
	})
	if cheaper < 1000 {
		t.Errorf("only %d lists of forms are cheaper if they are joined", cheaper)
	}
}

// costOfForms returns what the forms of patches cost together.
func costOfForms(l []api.Patch) int {
	sum := 0
	for _, p := range l {
		sum += patch.Cost(sample.Must(normal.Form(p)))
	}
	return sum
}

// P12.5: each part, for sections and sectors, against the form of the whole.
func TestCostsOfParts(t *testing.T) {
	compare := func(r *rand.Rand, p api.Patch) {
		form, e := normal.Form(p)
		if e == api.ErrBig {
			return
		}
		parts := sample.Must(split.Sectors(p, anySize(r, p)))
		if more, e := split.Split(p, anySections(r, p.Out)); e == api.OK {
			parts = append(parts, more...)
		}
		for _, part := range parts {
			if patch.Cost(part) > patch.Cost(form) {
				t.Fatalf("%v costs %d, and its part %v costs %d", form, patch.Cost(form), part, patch.Cost(part))
			}
		}
	}
	eachPatch(compare)
	r := rand.New(rand.NewPCG(12, 5))
	compare(r, bridged())
	compare(r, of(0, 40960, sample.Runs(4096)))
}
