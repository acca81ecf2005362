package drops

import (
	"math"
	"slices"
	"testing"

	"vigil/api"
)

// The greatest top, as the document has it.
const greatest = 2147483647

func someTops() []int {
	return []int{1, 2, 3, 7, 15, 16, 255, 256, 65535, 65536, 1 << 30, greatest - 1, greatest}
}

// noReasons is numbers about those of the reasons, and what would be one if it were cut.
func noReasons() []api.Errno {
	return []api.Errno{-1, 0, 16, 255, 256, -2, -15, -16, 17, 31, 257, 65536, 65537, greatest, greatest + 1, 1 << 32, 1<<32 + 1, math.MinInt, math.MinInt + 1, math.MaxInt}
}

func allReasons() []api.Errno {
	return []api.Errno{
		api.ErrArg, api.ErrLong, api.ErrForm, api.ErrEnd, api.ErrTag, api.ErrFull, api.ErrNone, api.ErrTwice,
		api.ErrOld, api.ErrRange, api.ErrState, api.ErrRole, api.ErrKind, api.ErrGone, api.ErrQuota,
	}
}

func of(t *testing.T, top int) *Drops {
	t.Helper()
	d, e := New(top)
	if d == nil || e != api.OK {
		t.Fatalf("%d: %v, %d", top, d, e)
	}
	return d
}

// counted is drops of the top that counted these.
func counted(t *testing.T, top int, l ...api.Errno) *Drops {
	t.Helper()
	d := of(t, top)
	counts(t, d, len(l), l...)
	return d
}

func counts(t *testing.T, d *Drops, want int, l ...api.Errno) {
	t.Helper()
	was := slices.Clone(l)
	if n := d.Count(l...); n != want {
		t.Errorf("%v: %d, not %d", l, n, want)
	}
	if !slices.Equal(l, was) {
		t.Errorf("%v was changed to %v", was, l)
	}
}

// tells fails unless each call that asks the drops has the answer that these counts give.
func tells(t *testing.T, d *Drops, want [16]int) {
	t.Helper()
	total, worst, most := 0, api.OK, 0
	for i := 15; i > 0; i-- {
		total += want[i]
		if want[i] > 0 && want[i] >= most {
			worst, most = api.Errno(i), want[i]
		}
		if n := d.Of(api.Errno(i)); n != want[i] {
			t.Errorf("of %d: %d, not %d", i, n, want[i])
		}
	}
	for _, e := range noReasons() {
		if n := d.Of(e); n != 0 {
			t.Errorf("of %d: %d", e, n)
		}
	}
	if all := d.All(); all != want {
		t.Errorf("%v, not %v", all, want)
	}
	if n := d.Total(); n != total {
		t.Errorf("%d in all, not %d", n, total)
	}
	if e, n := d.Worst(); e != worst || n != most {
		t.Errorf("worst %d: %d, not %d: %d", e, n, worst, most)
	}
}

// filled is drops of the greatest top, of which these reasons are at it. It is 31 bits of
// 1, so that doubling and one more, 31 times, gets there.
func filled(t *testing.T, l ...api.Errno) *Drops {
	t.Helper()
	d := of(t, greatest)
	for range 31 {
		joins(t, d, d, api.OK)
		counts(t, d, len(l), l...)
	}
	return d
}

func TestReasons(t *testing.T) {
	if Reasons != 15 {
		t.Error(Reasons)
	}
}

// P13.1: New.

func TestNew(t *testing.T) {
	for _, top := range someTops() {
		tells(t, of(t, top), [16]int{})
	}
}

func TestNewOfNoTop(t *testing.T) {
	for _, top := range []int{-1, 0, greatest + 1, greatest + 2, -2, -greatest, -greatest - 1, 1<<32 - 1, 1 << 32, 1<<32 + 1, math.MinInt, math.MinInt + 1, math.MaxInt} {
		if d, e := New(top); d != nil || e != api.ErrRange {
			t.Errorf("%d: %v, %d", top, d, e)
		}
	}
}

// P13.1: Count.

// The example of the document.
func TestTheExample(t *testing.T) {
	d := counted(t, 2, api.ErrForm, api.ErrForm, api.ErrForm, api.ErrTag)
	tells(t, d, [16]int{3: 2, 5: 1})
	if d.Of(api.ErrForm) != 2 || d.Of(api.ErrTag) != 1 || d.Total() != 3 {
		t.Error(d.All())
	}
}

func TestCountOfNone(t *testing.T) {
	d := of(t, 5)
	counts(t, d, 0)
	counts(t, d, 0, []api.Errno{}...)
	tells(t, d, [16]int{})
	counts(t, d, 2, api.ErrTag, api.ErrOld)
	counts(t, d, 0)
	tells(t, d, [16]int{5: 1, 9: 1})
}

func TestCountOfOneReason(t *testing.T) {
	for _, top := range someTops() {
		for i, e := range allReasons() {
			if int(e) != i+1 {
				t.Errorf("%d, not %d", e, i+1)
			}
			want := [16]int{}
			want[i+1] = 1
			tells(t, counted(t, top, e), want)
		}
	}
}

func TestCountOfSeveral(t *testing.T) {
	d := of(t, 100)
	counts(t, d, 3, api.ErrArg, api.ErrQuota, api.ErrTwice)
	tells(t, d, [16]int{1: 1, 8: 1, 15: 1})
	counts(t, d, 15, allReasons()...)
	tells(t, d, [16]int{0, 2, 1, 1, 1, 1, 1, 1, 2, 1, 1, 1, 1, 1, 1, 2})
	counts(t, d, 2, api.ErrQuota, api.ErrGone)
	tells(t, d, [16]int{0, 2, 1, 1, 1, 1, 1, 1, 2, 1, 1, 1, 1, 1, 2, 3})
}

// Of the same one more than once each counts.
func TestCountOfTheSameOne(t *testing.T) {
	d := of(t, 100)
	counts(t, d, 2, api.ErrRole, api.ErrRole)
	tells(t, d, [16]int{12: 2})
	counts(t, d, 7, api.ErrRole, api.ErrTag, api.ErrRole, api.ErrKind, api.ErrTag, api.ErrTag, api.ErrRole)
	tells(t, d, [16]int{5: 3, 12: 5, 13: 1})
}

func TestCountOfNoReasons(t *testing.T) {
	d := of(t, 100)
	for _, e := range noReasons() {
		counts(t, d, 0, e)
		counts(t, d, 0, e, e, e)
		tells(t, d, [16]int{})
	}
	counts(t, d, 0, noReasons()...)
	tells(t, d, [16]int{})
	counts(t, d, 4, -1, api.ErrArg, 0, 16, api.ErrQuota, 255, 256, api.ErrEnd, api.ErrArg, 16)
	tells(t, d, [16]int{1: 2, 4: 1, 15: 1})
	for _, e := range noReasons() {
		counts(t, d, 1, e, api.ErrGone, e)
	}
	tells(t, d, [16]int{1: 2, 4: 1, 14: len(noReasons()), 15: 1})
}

// A count that is at its top stays there, and its reasons are told all the same.
func TestCountUpToTheTop(t *testing.T) {
	for _, top := range []int{1, 2, 3, 10, 255, 256, 1000} {
		for _, e := range allReasons() {
			d := of(t, top)
			for n := 1; n <= top+3; n++ {
				counts(t, d, 1, e)
				if d.Of(e) != min(n, top) || d.Total() != min(n, top) {
					t.Errorf("top %d, %d counted %d times: %v", top, e, n, d.All())
				}
			}
			counts(t, d, 3, e, 0, e, 16, e)
			want := [16]int{}
			want[e] = top
			tells(t, d, want)
		}
	}
}

func TestCountOfMoreThanTheTop(t *testing.T) {
	d := of(t, 4)
	counts(t, d, 9, slices.Repeat([]api.Errno{api.ErrOld}, 9)...)
	tells(t, d, [16]int{9: 4})
	counts(t, d, 30, slices.Repeat(allReasons(), 2)...)
	tells(t, d, [16]int{0, 2, 2, 2, 2, 2, 2, 2, 2, 4, 2, 2, 2, 2, 2, 2})
	counts(t, d, 3000, slices.Repeat(allReasons(), 200)...)
	tells(t, d, [16]int{0, 4, 4, 4, 4, 4, 4, 4, 4, 4, 4, 4, 4, 4, 4, 4})
}

// A reason's top is its own: others are counted on.
func TestAReasonAtItsTopAmongOthers(t *testing.T) {
	d := counted(t, 2, api.ErrTag, api.ErrTag)
	counts(t, d, 5, api.ErrTag, api.ErrEnd, api.ErrTag, api.ErrFull, api.ErrTag)
	tells(t, d, [16]int{4: 1, 5: 2, 6: 1})
}

func TestCountAtTheGreatestTop(t *testing.T) {
	d := filled(t, api.ErrForm)
	tells(t, d, [16]int{3: greatest})
	for range 3 {
		counts(t, d, 3, api.ErrForm, api.ErrForm, api.ErrForm)
		tells(t, d, [16]int{3: greatest})
	}
	counts(t, d, 2, api.ErrForm, api.ErrEnd)
	tells(t, d, [16]int{3: greatest, 4: 1})
}

// One below the greatest top is its own top, too.
func TestCountJustBelowTheGreatestTop(t *testing.T) {
	d := counted(t, greatest-1, api.ErrForm)
	for range 30 {
		joins(t, d, d, api.OK)
	}
	tells(t, d, [16]int{3: 1 << 30})
	joins(t, d, d, api.OK)
	tells(t, d, [16]int{3: greatest - 1})
	counts(t, d, 1, api.ErrForm)
	tells(t, d, [16]int{3: greatest - 1})
}

// P13.1: Total, All and Worst.

func TestTotalOfManyAtTheGreatestTop(t *testing.T) {
	tells(t, filled(t, api.ErrArg, api.ErrQuota), [16]int{1: greatest, 15: greatest})
	d := filled(t, allReasons()...)
	if n := d.Total(); n != 32212254705 {
		t.Error(n)
	}
	counts(t, d, 15, allReasons()...)
	if n := d.Total(); n != 32212254705 {
		t.Error(n)
	}
}

func TestAllIsAnArrayOfItsOwn(t *testing.T) {
	d := counted(t, 9, api.ErrTag, api.ErrTag, api.ErrGone)
	before := d.All()
	counts(t, d, 3, api.ErrTag, api.ErrArg, api.ErrGone)
	joins(t, d, counted(t, 9, api.ErrOld), api.OK)
	if before != [16]int{5: 2, 14: 1} {
		t.Error(before)
	}
	after := d.All()
	after[0], after[5], after[14] = 7, 7, 7
	tells(t, d, [16]int{1: 1, 5: 3, 9: 1, 14: 2})
}

func TestWorst(t *testing.T) {
	for _, c := range []struct {
		top   int
		l     []api.Errno
		worst api.Errno
		most  int
	}{
		{9, nil, 0, 0},
		{9, noReasons(), 0, 0},
		{9, []api.Errno{api.ErrQuota}, api.ErrQuota, 1},
		{9, []api.Errno{api.ErrArg}, api.ErrArg, 1},
		{9, []api.Errno{api.ErrTag, api.ErrTag, api.ErrTag}, api.ErrTag, 3},
		{9, []api.Errno{api.ErrTag, api.ErrForm}, api.ErrForm, 1},
		{9, []api.Errno{api.ErrForm, api.ErrTag}, api.ErrForm, 1},
		{9, []api.Errno{api.ErrQuota, api.ErrArg, api.ErrQuota, api.ErrArg, api.ErrOld}, api.ErrArg, 2},
		{9, []api.Errno{api.ErrQuota, api.ErrArg, api.ErrQuota, api.ErrArg, api.ErrQuota}, api.ErrQuota, 3},
		{9, []api.Errno{api.ErrOld, api.ErrArg, api.ErrGone, api.ErrOld, api.ErrGone}, api.ErrOld, 2},
		{9, allReasons(), api.ErrArg, 1},
		{2, []api.Errno{api.ErrGone, api.ErrGone, api.ErrGone, api.ErrGone, api.ErrOld, api.ErrOld}, api.ErrOld, 2}, // both at the top
		{2, []api.Errno{api.ErrOld, api.ErrGone, api.ErrGone, api.ErrGone, api.ErrGone}, api.ErrGone, 2},
		{1, []api.Errno{api.ErrQuota, api.ErrQuota, api.ErrRange}, api.ErrRange, 1},
	} {
		d := of(t, c.top)
		d.Count(c.l...)
		for range 2 {
			if e, n := d.Worst(); e != c.worst || n != c.most {
				t.Errorf("%v: %d, %d, not %d, %d", c.l, e, n, c.worst, c.most)
			}
		}
	}
}

// Of each two that are equally often it is the smaller, whichever was counted first.
func TestWorstOfTwo(t *testing.T) {
	for _, a := range allReasons() {
		for _, b := range allReasons() {
			d := counted(t, 3, a, b)
			want, most := min(a, b), 1
			if a == b {
				most = 2
			}
			if e, n := d.Worst(); e != want || n != most {
				t.Errorf("%d and %d: %d, %d", a, b, e, n)
			}
			counts(t, d, 1, b)
			if e, n := d.Worst(); e != b || n != most+1 {
				t.Errorf("%d, %d and %d: %d, %d", a, b, b, e, n)
			}
		}
	}
}

func TestWorstAtTheGreatestTop(t *testing.T) {
	d := filled(t, api.ErrQuota, api.ErrGone)
	counts(t, d, 1, api.ErrArg)
	if e, n := d.Worst(); e != api.ErrGone || n != greatest {
		t.Error(e, n)
	}
}

// What only asks changes nothing.
func TestAskingChangesNothing(t *testing.T) {
	d := counted(t, 2, api.ErrForm, api.ErrForm, api.ErrTag)
	was := *d
	for range 3 {
		tells(t, d, [16]int{3: 2, 5: 1})
		d.Copy()
		Same(d, d)
	}
	if *d != was {
		t.Errorf("%v, not %v", *d, was)
	}
}

// P13.3: nil drops, and the zero ones, which New never answers.

func TestNilDrops(t *testing.T) {
	var d *Drops
	for range 2 {
		counts(t, d, 0)
		counts(t, d, 0, allReasons()...)
		counts(t, d, 0, noReasons()...)
		tells(t, d, [16]int{})
		for _, o := range []*Drops{nil, {}, of(t, 3), counted(t, 1, api.ErrTag)} {
			joins(t, d, o, api.ErrState)
		}
		if c := d.Copy(); c != nil {
			t.Error(c)
		}
	}
}

func TestZeroDrops(t *testing.T) {
	d := &Drops{}
	for range 2 {
		counts(t, d, 0, allReasons()...)
		tells(t, d, [16]int{})
		for _, o := range []*Drops{nil, {}, d, of(t, 3), counted(t, 1, api.ErrTag)} {
			joins(t, d, o, api.ErrState)
		}
		if c := d.Copy(); c == nil || *c != (Drops{}) || !Same(c, d) {
			t.Error(c)
		}
	}
}
