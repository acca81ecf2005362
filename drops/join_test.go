package drops

import (
	"slices"
	"testing"

	"vigil/api"
)

// joins fails unless this is what Join answers; what is joined is never changed by it, nor
// are the drops if it is an error.
func joins(t *testing.T, d, o *Drops, want api.Errno) {
	t.Helper()
	before, other := d.Copy(), o.Copy()
	if e := d.Join(o); e != want {
		t.Errorf("%d, not %d", e, want)
	}
	if want != api.OK && !Same(d, before) {
		t.Errorf("error %d, and %v became %v", want, before, d)
	}
	if d != o && !Same(o, other) {
		t.Errorf("%v was joined, and became %v", other, o)
	}
}

// P13.2: Join.

func TestJoinOfTwo(t *testing.T) {
	d := counted(t, 100, api.ErrArg, api.ErrTag, api.ErrTag)
	o := counted(t, 100, api.ErrTag, api.ErrOld, api.ErrOld, api.ErrOld, api.ErrQuota)
	joins(t, d, o, api.OK)
	tells(t, d, [16]int{1: 1, 5: 3, 9: 3, 15: 1})
	tells(t, o, [16]int{5: 1, 9: 3, 15: 1})
	joins(t, o, d, api.OK)
	tells(t, d, [16]int{1: 1, 5: 3, 9: 3, 15: 1})
	tells(t, o, [16]int{1: 1, 5: 4, 9: 6, 15: 2})
	counts(t, o, 1, api.ErrGone)
	tells(t, d, [16]int{1: 1, 5: 3, 9: 3, 15: 1})
}

func TestJoinOfEachReason(t *testing.T) {
	for _, e := range allReasons() {
		for _, other := range allReasons() {
			d, o := counted(t, 9, e, e), counted(t, 9, other, other, other)
			joins(t, d, o, api.OK)
			want := [16]int{}
			want[e] = 2
			want[other] += 3
			tells(t, d, want)
		}
	}
}

func TestJoinOfNone(t *testing.T) {
	d, none := counted(t, 5, api.ErrTag, api.ErrTag), of(t, 5)
	joins(t, d, none, api.OK)
	tells(t, d, [16]int{5: 2})
	joins(t, none, d, api.OK)
	tells(t, none, [16]int{5: 2})
	joins(t, of(t, 5), of(t, 5), api.OK)
}

func TestJoinWithThemselves(t *testing.T) {
	d := counted(t, 10, api.ErrArg, api.ErrTag, api.ErrTag, api.ErrTag, api.ErrQuota)
	joins(t, d, d, api.OK)
	tells(t, d, [16]int{1: 2, 5: 6, 15: 2})
	joins(t, d, d, api.OK)
	tells(t, d, [16]int{1: 4, 5: 10, 15: 4})
	joins(t, d, d, api.OK)
	joins(t, d, d, api.OK)
	tells(t, d, [16]int{1: 10, 5: 10, 15: 10})
}

func TestJoinOfNil(t *testing.T) {
	for _, d := range []*Drops{of(t, 1), of(t, greatest), counted(t, 3, api.ErrTag, api.ErrOld), filled(t, api.ErrArg)} {
		joins(t, d, nil, api.ErrArg)
	}
}

// Of nil drops it is ErrState, whatever is joined.
func TestJoinToNil(t *testing.T) {
	joins(t, nil, nil, api.ErrState)
	joins(t, nil, of(t, 3), api.ErrState)
	joins(t, nil, counted(t, greatest, api.ErrTag), api.ErrState)
}

func TestJoinOfAnotherTop(t *testing.T) {
	for i, top := range someTops() {
		for k, other := range someTops() {
			d, o := counted(t, top, api.ErrTag), counted(t, other, api.ErrTag, api.ErrOld)
			want := api.ErrState
			if i == k {
				want = api.OK
			}
			joins(t, d, o, want)
			if i != k {
				tells(t, d, [16]int{5: 1})
				tells(t, o, [16]int{5: 1, 9: 1})
			}
		}
	}
	joins(t, of(t, 3), of(t, 4), api.ErrState)
	joins(t, of(t, 3), &Drops{}, api.ErrState)
}

func TestJoinOfMoreThanTheTop(t *testing.T) {
	for a := range 9 {
		for b := range 9 {
			d := counted(t, 8, slices.Repeat([]api.Errno{api.ErrRange}, a)...)
			o := counted(t, 8, slices.Repeat([]api.Errno{api.ErrRange}, b)...)
			counts(t, o, 1, api.ErrGone)
			joins(t, d, o, api.OK)
			tells(t, d, [16]int{10: min(8, a+b), 14: 1})
			tells(t, o, [16]int{10: b, 14: 1})
		}
	}
}

func TestJoinAtTheGreatestTop(t *testing.T) {
	d, one := filled(t, api.ErrForm), counted(t, greatest, api.ErrForm, api.ErrEnd)
	joins(t, d, one, api.OK)
	tells(t, d, [16]int{3: greatest, 4: 1})
	joins(t, one, d, api.OK)
	tells(t, one, [16]int{3: greatest, 4: 2})
	joins(t, d, d, api.OK)
	tells(t, d, [16]int{3: greatest, 4: 2})
	joins(t, d, filled(t, api.ErrForm, api.ErrEnd), api.OK)
	tells(t, d, [16]int{3: greatest, 4: greatest})
}

// Halves that are together just the greatest top, one less, and one more.
func TestJoinAboutTheGreatestTop(t *testing.T) {
	half := counted(t, greatest, api.ErrForm)
	for range 30 {
		joins(t, half, half, api.OK)
	}
	less := of(t, greatest)
	for range 30 {
		joins(t, less, less, api.OK)
		counts(t, less, 1, api.ErrForm)
	}
	tells(t, half, [16]int{3: 1 << 30})
	tells(t, less, [16]int{3: 1<<30 - 1})
	for _, c := range []struct {
		d, o *Drops
		want int
	}{{half, less, greatest}, {less, half, greatest}, {less, less, greatest - 1}, {half, half, greatest}} {
		d := c.d.Copy()
		joins(t, d, c.o, api.OK)
		tells(t, d, [16]int{3: c.want})
	}
}

// P13.2: Copy.

func TestCopy(t *testing.T) {
	for _, top := range someTops() {
		d := counted(t, top, api.ErrTag)
		c := d.Copy()
		if c == d || !Same(c, d) {
			t.Errorf("top %d: %v, %v", top, c, d)
		}
		joins(t, c, d, api.OK) // of the same top
		tells(t, d, [16]int{5: 1})
		tells(t, c, [16]int{5: min(2, top)})
	}
	tells(t, of(t, 3).Copy(), [16]int{})
}

func TestACopyGoesItsOwnWay(t *testing.T) {
	d := counted(t, 3, api.ErrTag, api.ErrOld)
	c := d.Copy()
	counts(t, c, 2, api.ErrOld, api.ErrArg)
	tells(t, d, [16]int{5: 1, 9: 1})
	counts(t, d, 3, api.ErrTag, api.ErrTag, api.ErrTag)
	tells(t, d, [16]int{5: 3, 9: 1})
	tells(t, c, [16]int{1: 1, 5: 1, 9: 2})
	counts(t, c, 3, api.ErrOld, api.ErrOld, api.ErrOld) // the top is the copy's, too
	tells(t, c, [16]int{1: 1, 5: 1, 9: 3})
	again := c.Copy()
	joins(t, again, d, api.OK)
	tells(t, c, [16]int{1: 1, 5: 1, 9: 3})
	tells(t, again, [16]int{1: 1, 5: 3, 9: 3})
}

func TestCopyOfFullOnes(t *testing.T) {
	c := filled(t, allReasons()...).Copy()
	counts(t, c, 15, allReasons()...)
	if c.Total() != 15*greatest {
		t.Error(c.All())
	}
}

// P13.2: Same.

func same(t *testing.T, want bool, a, b *Drops) {
	t.Helper()
	if Same(a, b) != want || Same(b, a) != want {
		t.Errorf("%v, %v: %t, %t", a, b, Same(a, b), Same(b, a))
	}
}

func TestSame(t *testing.T) {
	a, b := of(t, 3), of(t, 3)
	same(t, true, a, b)
	same(t, true, a, a)
	counts(t, a, 2, api.ErrTag, api.ErrOld)
	same(t, false, a, b)
	counts(t, b, 2, api.ErrOld, api.ErrTag) // in another order
	same(t, true, a, b)
	counts(t, b, 1, api.ErrOld)
	same(t, false, a, b)
	counts(t, a, 1, api.ErrOld)
	counts(t, a, 0, noReasons()...)
	same(t, true, a, b)
	counts(t, a, 1, api.ErrOld) // up to the top, and beyond
	counts(t, b, 3, api.ErrOld, api.ErrOld, api.ErrOld)
	same(t, true, a, b)
}

func TestSameOfUnlikeTops(t *testing.T) {
	for i, top := range someTops() {
		for k, other := range someTops() {
			same(t, i == k, of(t, top), of(t, other))
			same(t, i == k, counted(t, top, api.ErrTag), counted(t, other, api.ErrTag))
			same(t, i == k, counted(t, top, allReasons()...), counted(t, other, allReasons()...))
		}
	}
}

func TestSameOfOneCountThatDiffers(t *testing.T) {
	for _, e := range allReasons() {
		a, b := counted(t, 9, allReasons()...), counted(t, 9, allReasons()...)
		same(t, true, a, b)
		counts(t, b, 1, e)
		same(t, false, a, b)
		for _, other := range allReasons() {
			same(t, other == e, counted(t, 9, e), counted(t, 9, other)) // as many in all
		}
	}
}

func TestSameOfNil(t *testing.T) {
	same(t, true, nil, nil)
	same(t, false, nil, of(t, 1))
	same(t, false, nil, of(t, greatest))
	same(t, false, nil, counted(t, 3, api.ErrTag))
	same(t, false, nil, &Drops{})
	same(t, true, (*Drops)(nil).Copy(), nil)
}

// P13.2: Word.

func TestWord(t *testing.T) {
	for _, c := range []struct {
		e    api.Errno
		word string
	}{
		{1, "arg"}, {2, "long"}, {3, "form"}, {4, "end"}, {5, "tag"}, {6, "full"}, {7, "none"}, {8, "twice"},
		{9, "old"}, {10, "range"}, {11, "state"}, {12, "role"}, {13, "kind"}, {14, "gone"}, {15, "quota"},
	} {
		if word := Word(c.e); word != c.word {
			t.Errorf("%d: %q, not %q", c.e, word, c.word)
		}
	}
	for _, c := range []struct {
		e    api.Errno
		word string
	}{{api.ErrArg, "arg"}, {api.ErrNone, "none"}, {api.ErrTwice, "twice"}, {api.ErrState, "state"}, {api.ErrQuota, "quota"}} {
		if word := Word(c.e); word != c.word {
			t.Errorf("%d: %q, not %q", c.e, word, c.word)
		}
	}
}

func TestWordOfNoReason(t *testing.T) {
	for _, e := range noReasons() {
		if word := Word(e); word != "" {
			t.Errorf("%d: %q", e, word)
		}
	}
}
