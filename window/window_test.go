package window

import (
	"math"
	"slices"
	"testing"

	"vigil/api"
)

// seen is what a window shows: its latest nonce, and what Look answers of those about it.
type seen struct {
	latest Nonce
	looks  []api.Errno
}

func sight(w *Window) seen {
	s := seen{latest: w.Latest()}
	for boot := s.latest.Boot - 1; boot <= s.latest.Boot+1; boot++ {
		for counter := s.latest.Counter - 70; counter <= s.latest.Counter+70; counter++ {
			s.looks = append(s.looks, w.Look(Nonce{boot, counter}))
		}
	}
	return s
}

func (s seen) same(o seen) bool {
	return s.latest == o.latest && slices.Equal(s.looks, o.looks)
}

// takes fails unless Look and Take answer this, and all is as it was but by a Take that
// is let, and the nonce is taken behind it.
func takes(t *testing.T, w *Window, want api.Errno, boot, counter int) {
	t.Helper()
	n := Nonce{boot, counter}
	before, was := sight(w), *w
	looks(t, w, want, n)
	if *w != was {
		t.Errorf("%v: a look changed %v", n, w)
	}
	if e := w.Take(n); e != want {
		t.Errorf("%v: %d, not %d", n, e, want)
	}
	switch {
	case want == api.OK:
		looks(t, w, api.ErrTwice, n)
	case *w != was || !sight(w).same(before):
		t.Errorf("%v: what wasn't taken changed %v", n, w)
	}
}

func looks(t *testing.T, w *Window, want api.Errno, l ...Nonce) {
	t.Helper()
	for _, n := range l {
		for range 2 {
			if e := w.Look(n); e != want {
				t.Errorf("%v: %d, not %d", n, e, want)
			}
		}
	}
}

func latest(t *testing.T, w *Window, boot, counter int) {
	t.Helper()
	for range 2 {
		if n := w.Latest(); n != (Nonce{boot, counter}) {
			t.Errorf("%v, not %d %d", n, boot, counter)
		}
	}
}

func taken(t *testing.T, w *Window, want int, l ...Nonce) {
	t.Helper()
	was := *w
	if n := w.Taken(l...); n != want {
		t.Errorf("%v: %d, not %d", l, n, want)
	}
	if *w != was {
		t.Errorf("%v: changed by Taken", l)
	}
}

// took is a window that took these counters of a boot.
func took(t *testing.T, boot int, counters ...int) *Window {
	t.Helper()
	w := &Window{}
	for _, counter := range counters {
		takes(t, w, api.OK, boot, counter)
	}
	return w
}

func TestWide(t *testing.T) {
	if Wide != 64 {
		t.Error(Wide)
	}
}

// P12.2: what is no nonce.

func TestWhatIsNoNonceIsNotTaken(t *testing.T) {
	for _, w := range []*Window{{}, took(t, 7, 100), took(t, topBoot, topCounter), took(t, 1, 1)} {
		was := *w
		for _, n := range append(noNonces(), Nonce{}) {
			looks(t, w, api.ErrRange, n)
			if e := w.Take(n); e != api.ErrRange || *w != was {
				t.Errorf("%v: %d, %v", n, e, w)
			}
		}
		taken(t, w, 0, noNonces()...)
	}
}

// What is both old and no nonce is that it is none.
func TestWhatIsNoNonceIsNotOld(t *testing.T) {
	w := took(t, 9, 1000)
	for _, n := range []Nonce{{9, 0}, {9, -1}, {9, math.MinInt}, {0, 1000}, {-1, 1001}, {8, 0}, {8, topCounter + 1}, {0, 0}} {
		takes(t, w, api.ErrRange, n.Boot, n.Counter)
	}
	latest(t, w, 9, 1000)
}

// P12.2: the first one, and the same one twice.

func TestAFirstNonce(t *testing.T) {
	for _, n := range rightNonces() {
		w := &Window{}
		latest(t, w, 0, 0)
		taken(t, w, 0, n, n)
		takes(t, w, api.OK, n.Boot, n.Counter)
		latest(t, w, n.Boot, n.Counter)
		taken(t, w, 1, n)
		for range 3 {
			takes(t, w, api.ErrTwice, n.Boot, n.Counter)
			latest(t, w, n.Boot, n.Counter)
		}
	}
}

// Nothing but the first one itself is taken by it.
func TestOnlyTheFirstOneIsTaken(t *testing.T) {
	for _, counter := range []int{1, 2, 63, 64, 65, 66, 1000, topCounter - 1, topCounter} {
		w := took(t, 7, counter)
		for other := max(1, counter-200); other <= min(topCounter, counter+200); other++ {
			want := api.OK
			switch {
			case other == counter:
				want = api.ErrTwice
			case counter-other >= 64:
				want = api.ErrOld
			}
			looks(t, w, want, Nonce{7, other})
		}
	}
}

// The bits about the document's edges, each asked of a window of its own.
func TestCountersAboutTheGreatest(t *testing.T) {
	for _, greatest := range []int{66, 100, 1000, 1 << 30, topCounter - 2000, topCounter - 65} {
		for _, c := range []struct {
			by   int
			want api.Errno
		}{
			{-65, api.ErrOld}, {-64, api.ErrOld}, {-63, api.OK}, {-62, api.OK}, {-32, api.OK}, {-2, api.OK}, {-1, api.OK}, {0, api.ErrTwice},
			{1, api.OK}, {2, api.OK}, {32, api.OK}, {62, api.OK}, {63, api.OK}, {64, api.OK}, {65, api.OK}, {1000, api.OK}, {topCounter - greatest, api.OK},
		} {
			if greatest+c.by > topCounter {
				continue
			}
			w := took(t, 7, greatest)
			takes(t, w, c.want, 7, greatest+c.by)
			latest(t, w, 7, greatest+max(0, c.by))
			again := api.ErrTwice
			if c.want == api.ErrOld {
				again = api.ErrOld
			}
			takes(t, w, again, 7, greatest+c.by)
		}
	}
}

// The one that was the greatest is known till 64 counters rose above it, then it is old;
// what lies between isn't taken.
func TestCountersAboveTheGreatest(t *testing.T) {
	for _, greatest := range []int{1, 5, 64, 1000, 1 << 30} {
		for _, by := range []int{1, 2, 31, 32, 33, 62, 63, 64, 65, 66, 127, 128, 129, 255, 256, 1000, 65536, 1 << 24, 1<<30 - 1} {
			w := took(t, 7, greatest, greatest+by)
			latest(t, w, 7, greatest+by)
			was := api.ErrTwice
			if by >= 64 {
				was = api.ErrOld
			}
			takes(t, w, was, 7, greatest)
			for between := max(1, greatest+by-70); between < greatest+by; between++ {
				if between != greatest {
					want := api.OK
					if greatest+by-between >= 64 {
						want = api.ErrOld
					}
					looks(t, w, want, Nonce{7, between})
				}
			}
		}
	}
}

// Of a full window, what stays is full, and what comes in is free.
func TestAFullWindowRises(t *testing.T) {
	for by := range 140 {
		w := &Window{}
		for counter := 1; counter <= 64; counter++ {
			takes(t, w, api.OK, 7, counter)
		}
		greatest := 64 + by
		if by > 0 {
			takes(t, w, api.OK, 7, greatest)
		}
		for counter := 1; counter <= greatest; counter++ {
			want := api.OK
			switch {
			case greatest-counter >= 64:
				want = api.ErrOld
			case counter <= 64 || counter == greatest:
				want = api.ErrTwice
			}
			looks(t, w, want, Nonce{7, counter})
		}
	}
}

// Below the greatest all 63 are taken, in any order, and leave the latest as it is.
func TestCountersBelowTheGreatest(t *testing.T) {
	for _, step := range []int{1, 2, 5, 10, 31, 47, 62} { // none has a factor of 63, so that each one comes
		w := took(t, 7, 1000)
		at := 0
		for range 63 {
			takes(t, w, api.OK, 7, 1000-63+at)
			latest(t, w, 7, 1000)
			at = (at + step) % 63
		}
		for counter := 1000 - 63; counter <= 1000; counter++ {
			takes(t, w, api.ErrTwice, 7, counter)
		}
		takes(t, w, api.ErrOld, 7, 1000-64)
		takes(t, w, api.OK, 7, 1001)
		takes(t, w, api.ErrOld, 7, 1000-63)
	}
}

// P12.2: boots.

func TestALowerBootIsOld(t *testing.T) {
	w := took(t, 1, 1000)
	takes(t, w, api.OK, 300, 40)
	for _, boot := range []int{1, 2, 7, 44, 255, 256, 299} {
		for _, counter := range rightCounters() {
			takes(t, w, api.ErrOld, boot, counter)
		}
		takes(t, w, api.ErrOld, boot, 40)
		takes(t, w, api.ErrOld, boot, 41)
		takes(t, w, api.ErrOld, boot, 1000)
	}
	latest(t, w, 300, 40)
	takes(t, w, api.OK, 300, 39)
	takes(t, w, api.ErrTwice, 300, 40)
}

func TestAGreaterBootIsTaken(t *testing.T) {
	for _, boot := range []int{8, 9, 7 + 256, 1000, topBoot} {
		for _, counter := range []int{1, 2, 63, 64, 65, 66, 99, 100, 101, 102, 163, 164, 165, 5000, topCounter} {
			w := took(t, 7, 90, 99, 100)
			takes(t, w, api.OK, boot, counter)
			latest(t, w, boot, counter)
			for other := max(1, counter-70); other < counter; other++ {
				want := api.OK
				if counter-other >= 64 {
					want = api.ErrOld
				}
				looks(t, w, want, Nonce{boot, other})
			}
			takes(t, w, api.ErrOld, 7, 100)
			takes(t, w, api.ErrOld, 7, 101)
			takes(t, w, api.ErrOld, boot-1, topCounter)
		}
	}
}

// What rose by a boot goes on as any other window does.
func TestBehindAGreaterBoot(t *testing.T) {
	w := took(t, 7, 1, 2, 3, 64)
	takes(t, w, api.OK, 8, 3)
	takes(t, w, api.OK, 8, 1)
	takes(t, w, api.ErrTwice, 8, 3)
	takes(t, w, api.OK, 8, 64)
	takes(t, w, api.OK, 8, 2)
	takes(t, w, api.OK, 8, 65)
	takes(t, w, api.ErrOld, 8, 1)
	takes(t, w, api.ErrTwice, 8, 2)
	latest(t, w, 8, 65)
}

// P12.2: Latest.

func TestLatest(t *testing.T) {
	w := &Window{}
	latest(t, w, 0, 0)
	takes(t, w, api.ErrRange, 0, 5)
	takes(t, w, api.ErrRange, 5, 0)
	latest(t, w, 0, 0)
	takes(t, w, api.OK, 5, 100) // the first one
	latest(t, w, 5, 100)
	takes(t, w, api.OK, 5, 90) // a lower one
	latest(t, w, 5, 100)
	takes(t, w, api.ErrTwice, 5, 90)
	takes(t, w, api.ErrOld, 5, 36)
	takes(t, w, api.ErrOld, 4, 200)
	takes(t, w, api.ErrRange, 6, 0)
	takes(t, w, api.ErrRange, topBoot+1, 200)
	latest(t, w, 5, 100)
	takes(t, w, api.OK, 5, 101) // a greater one
	latest(t, w, 5, 101)
	takes(t, w, api.OK, 6, 1) // a greater boot
	latest(t, w, 6, 1)
	takes(t, w, api.OK, topBoot, topCounter)
	latest(t, w, topBoot, topCounter)
	takes(t, w, api.OK, topBoot, topCounter-63)
	latest(t, w, topBoot, topCounter)
}

// P12.2: Taken.

func TestTaken(t *testing.T) {
	w := took(t, 7, 30, 31, 33, 100)
	taken(t, w, 0)
	taken(t, w, 1, Nonce{7, 100})
	taken(t, w, 0, Nonce{7, 99})
	taken(t, w, 1, Nonce{7, 99}, Nonce{7, 100}, Nonce{7, 101})
	taken(t, w, 0, Nonce{7, 30}, Nonce{7, 31}, Nonce{7, 33}) // taken once, but old now
	taken(t, w, 0, Nonce{6, 100}, Nonce{8, 100}, Nonce{6, 30}, Nonce{8, 1})
	taken(t, w, 0, Nonce{}, Nonce{7, 0}, Nonce{0, 100}, Nonce{7, -100}, Nonce{65536 + 7, 100}, Nonce{7, 1<<32 + 100})
	takes(t, w, api.OK, 7, 90)
	takes(t, w, api.OK, 7, 37)
	taken(t, w, 3, Nonce{7, 37}, Nonce{7, 36}, Nonce{7, 90}, Nonce{}, Nonce{7, 38}, Nonce{7, 100}, Nonce{6, 90}, Nonce{7, 91})
	takes(t, w, api.OK, 8, 37)
	taken(t, w, 1, Nonce{7, 37}, Nonce{8, 37}, Nonce{7, 100}, Nonce{8, 90})
}

// Of the same one twice each is told ErrTwice.
func TestTakenOfTheSameOneTwice(t *testing.T) {
	w := took(t, 7, 100, 98)
	taken(t, w, 2, Nonce{7, 100}, Nonce{7, 100})
	taken(t, w, 4, Nonce{7, 100}, Nonce{7, 98}, Nonce{7, 99}, Nonce{7, 98}, Nonce{7, 99}, Nonce{7, 100})
	taken(t, w, 0, Nonce{7, 99}, Nonce{7, 99})
}

func TestTakenOfMany(t *testing.T) {
	w := &Window{}
	var l []Nonce
	for counter := 1; counter <= 1000; counter++ {
		if counter%3 != 0 {
			takes(t, w, api.OK, 7, counter)
		}
		l = append(l, Nonce{7, counter})
	}
	was := slices.Clone(l)
	taken(t, w, 43, l...) // of 937 to 1000 those that three doesn't divide
	if !slices.Equal(l, was) {
		t.Error("the list was changed")
	}
	taken(t, &Window{}, 0, l...)
}

// The examples of the document.
func TestTheExample(t *testing.T) {
	w := took(t, 1, 5)
	takes(t, w, api.OK, 1, 3)
	takes(t, w, api.ErrTwice, 1, 5)
	takes(t, w, api.OK, 1, 70)
	takes(t, w, api.ErrOld, 1, 6)
	takes(t, w, api.OK, 1, 7)
}

func TestWindowsOfTheirOwn(t *testing.T) {
	one := took(t, 7, 100)
	two := *one
	takes(t, one, api.OK, 7, 101)
	takes(t, &two, api.OK, 7, 90)
	latest(t, one, 7, 101)
	latest(t, &two, 7, 100)
	taken(t, one, 0, Nonce{7, 90})
	taken(t, &two, 0, Nonce{7, 101})
}
