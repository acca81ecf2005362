package drops

import (
	"math/rand"
	"testing"

	"vigil/api"
)

// P13.3: nothing but counts is ever changed, and a count never falls. P2: the same calls
// have the same answers.

// told is how often each reason was told, as if there were no top, which is asked only at
// the end. As joins double it, it is cut where it is far above all tops.
type told struct {
	top int
	all [16]int
}

const farAbove = 1 << 40

func (o *told) count(l ...api.Errno) int {
	reasons := 0
	for _, e := range l {
		switch e {
		case 1, 2, 3, 4, 5, 6, 7, 8, 9, 10, 11, 12, 13, 14, 15:
			o.all[e]++
			reasons++
		}
	}
	return reasons
}

func (o *told) join(x *told) {
	for i, n := range x.all {
		o.all[i] = min(farAbove, o.all[i]+n)
	}
}

func (o *told) counts() [16]int {
	c := o.all
	for i := range c {
		c[i] = min(c[i], o.top)
	}
	return c
}

// A pair is drops, and all that they were told.
type pair struct {
	d *Drops
	o *told
}

func (p pair) copied() pair {
	o := *p.o
	return pair{p.d.Copy(), &o}
}

// drawn is a list of numbers, most of them reasons, and more of some than of others.
func drawn(draws *rand.Rand) []api.Errno {
	l := make([]api.Errno, draws.Intn(6))
	for i := range l {
		l[i] = api.Errno(draws.Intn(draws.Intn(18)+1) - 1)
	}
	return l
}

// step does one call that may change one of the drops, and fails unless each count of
// every one of them is as it was told, and none fell.
func step(t *testing.T, draws *rand.Rand, pairs []pair, seen map[api.Errno]int) {
	t.Helper()
	at, from := draws.Intn(len(pairs)), draws.Intn(len(pairs))
	var before [][16]int
	for _, p := range pairs {
		before = append(before, p.d.All())
	}
	switch p, x := pairs[at], pairs[from]; draws.Intn(20) {
	case 0:
		want := api.OK
		if p.o.top != x.o.top {
			want = api.ErrState
		} else {
			p.o.join(x.o)
		}
		seen[want]++
		joins(t, p.d, x.d, want)
	case 1:
		seen[api.ErrArg]++
		joins(t, p.d, nil, api.ErrArg)
	case 2: // its copy goes on in its place
		pairs[at] = p.copied()
		counts(t, p.d, 3, api.ErrTag, api.ErrOld, api.ErrTag)
		if !Same(pairs[at].d, pairs[at].d.Copy()) {
			t.Error("a copy isn't the same")
		}
	default:
		l := drawn(draws)
		counts(t, p.d, p.o.count(l...), l...)
	}
	for i, p := range pairs {
		tells(t, p.d, p.o.counts())
		for e, n := range p.d.All() {
			if n < before[i][e] || n > p.o.top {
				t.Errorf("top %d, reason %d: %d behind %d", p.o.top, e, n, before[i][e])
			}
		}
	}
}

// Rows of calls by a fixed row of draws, so that each run has the same ones: of several
// drops, some of which have the same top.
func TestLongRows(t *testing.T) {
	for seed, tops := range [][]int{{1, 1, 2}, {2, 3, 2}, {20, 20, 20}, {100, 1000, 100, 1000}, {greatest, greatest, greatest - 1}} {
		draws := rand.New(rand.NewSource(int64(seed + 13)))
		var pairs []pair
		for _, top := range tops {
			pairs = append(pairs, pair{of(t, top), &told{top: top}})
		}
		seen := map[api.Errno]int{}
		for range 3000 {
			step(t, draws, pairs, seen)
		}
		if seen[api.OK] < 30 || seen[api.ErrArg] < 30 || seed != 2 && seen[api.ErrState] < 30 {
			t.Errorf("%v: a row that tells little: %v", tops, seen)
		}
	}
}

// Without another Join or Count, a row's end is that of each of its orders.
func TestTheOrderDoesntMatter(t *testing.T) {
	draws := rand.New(rand.NewSource(13))
	for range 300 {
		var l []api.Errno
		for range 40 {
			l = append(l, drawn(draws)...)
		}
		top := draws.Intn(20) + 1
		d, other := of(t, top), of(t, top)
		all := d.Count(l...)
		one := 0
		for _, i := range draws.Perm(len(l)) {
			one += other.Count(l[i])
		}
		if all != one || !Same(d, other) {
			t.Errorf("top %d: %d and %v, %d and %v", top, all, d, one, other)
		}
		cut := draws.Intn(len(l) + 1)
		head, tail := of(t, top), of(t, top)
		head.Count(l[:cut]...)
		tail.Count(l[cut:]...)
		joins(t, tail, head, api.OK)
		if !Same(d, tail) {
			t.Errorf("top %d, cut at %d: %v, not %v", top, cut, tail, d)
		}
	}
}

// The same calls in the same order have the same answers.
func TestTheSameCallsTwice(t *testing.T) {
	run := func() []int {
		draws := rand.New(rand.NewSource(7))
		d, o := of(t, 9), of(t, 9)
		var out []int
		for range 500 {
			worst, most := d.Worst()
			out = append(out, d.Count(drawn(draws)...), o.Count(drawn(draws)...), d.Total(), int(worst), most)
			if draws.Intn(50) == 0 {
				out = append(out, int(d.Join(o)))
			}
		}
		all := d.All()
		return append(out, all[:]...)
	}
	one, two := run(), run()
	for i := range one {
		if len(one) != len(two) || one[i] != two[i] {
			t.Fatalf("%d: %d, then %d", i, one[i], two[i])
		}
	}
}

// Whatever happens to drops at their top, they stay there, and stay of the same top.
func TestTheTopStays(t *testing.T) {
	for _, top := range []int{1, 2, 5, 100} {
		d := of(t, top)
		for range top {
			counts(t, d, 15, allReasons()...)
		}
		full := d.Copy()
		draws := rand.New(rand.NewSource(int64(top)))
		for range 300 {
			d.Count(drawn(draws)...)
			joins(t, d, d, api.OK)
			joins(t, d, full, api.OK)
			joins(t, d, of(t, top), api.OK)
			joins(t, d, of(t, top+1), api.ErrState)
			joins(t, d, nil, api.ErrArg)
			if !Same(d, full) {
				t.Fatalf("%v, not %v", d, full)
			}
		}
	}
}
