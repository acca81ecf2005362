package window

import (
	"math"
	"math/rand"
	"slices"
	"testing"

	"vigil/api"
)

// P12.3: no nonce is taken twice, those that rise are all taken, and whatever a crash
// forgets, with a greater boot a sender's nonces are taken again.

// told is all that a window was told to take, and the greatest of it: nothing of it is
// ever forgotten.
type told struct {
	all map[Nonce]bool
	top Nonce
}

func (o *told) look(n Nonce) api.Errno {
	switch {
	case n.Boot < 1 || n.Boot > topBoot || n.Counter < 1 || n.Counter > topCounter:
		return api.ErrRange
	case n.Boot < o.top.Boot || n.Boot == o.top.Boot && n.Counter <= o.top.Counter-64:
		return api.ErrOld
	case o.all[n]:
		return api.ErrTwice
	}
	return api.OK
}

func (o *told) take(n Nonce) api.Errno {
	e := o.look(n)
	if e == api.OK {
		o.all[n] = true
		if n.Boot > o.top.Boot || n.Boot == o.top.Boot && n.Counter > o.top.Counter {
			o.top = n
		}
	}
	return e
}

// asks has both take the nonce, and fails unless they answer the same.
func asks(t *testing.T, w *Window, o *told, n Nonce) api.Errno {
	t.Helper()
	want := o.look(n)
	looks(t, w, want, n)
	o.take(n)
	if e := w.Take(n); e != want || w.Latest() != o.top {
		t.Errorf("%v: %d and %v, not %d and %v", n, e, w.Latest(), want, o.top)
	}
	return want
}

// Rows of calls by a fixed row of draws, so that each run has the same ones: about the
// greatest counter, rising as fast as drawn, and at times of another boot.
func TestLongRows(t *testing.T) {
	for seed, rising := range []int{1, 2, 5, 20, 64, 65, 130, 1000} {
		draws := rand.New(rand.NewSource(int64(seed + 12)))
		w, o := &Window{}, &told{all: map[Nonce]bool{}}
		seen := map[api.Errno]int{}
		for range 20000 {
			n := Nonce{max(1, o.top.Boot), o.top.Counter - draws.Intn(80)}
			switch draws.Intn(200) {
			case 0:
				n = Nonce{o.top.Boot + draws.Intn(3), draws.Intn(200)}
			case 1, 2, 3, 4:
				n.Boot -= draws.Intn(3)
			case 5, 6, 7, 8, 9, 10, 11, 12, 13, 14:
				n.Counter = o.top.Counter + draws.Intn(rising) + 1
			}
			seen[asks(t, w, o, n)]++
		}
		if seen[api.OK] < 1000 || seen[api.ErrOld] < 1000 || seen[api.ErrTwice] < 1000 || seen[api.ErrRange] < 20 {
			t.Errorf("%d: a row that tells little: %v", rising, seen)
		}
	}
}

// Few counters, in any order, many times over.
func TestShortRows(t *testing.T) {
	l := []Nonce{{1, 1}, {1, 2}, {1, 64}, {1, 65}, {1, 66}, {1, 129}, {2, 1}, {2, 65}}
	draws := rand.New(rand.NewSource(12))
	for range 5000 {
		w, o := &Window{}, &told{all: map[Nonce]bool{}}
		for range 3 {
			for _, i := range draws.Perm(len(l)) {
				asks(t, w, o, l[i])
			}
		}
	}
}

// Every row of three about the edges, from each counter on.
func TestAllRowsOfThree(t *testing.T) {
	by := []int{-66, -65, -64, -63, -62, -1, 0, 1, 2, 62, 63, 64, 65, 66, 127, 128, 129}
	for _, first := range []int{1, 63, 64, 65, 66, 500, topCounter - 64, topCounter} {
		for _, second := range by {
			for _, third := range by {
				w, o := &Window{}, &told{all: map[Nonce]bool{}}
				for _, counter := range []int{first, first + second, first + third, first, first + second, first + third} {
					asks(t, w, o, Nonce{7, counter})
				}
			}
		}
	}
}

// Whatever is tried, and however often, no nonce is taken twice.
func TestNoNonceIsTakenTwice(t *testing.T) {
	w, n := &Window{}, map[Nonce]int{}
	draws := rand.New(rand.NewSource(3))
	for i := range 200000 {
		x := Nonce{1 + i/50000 + draws.Intn(2) - draws.Intn(2), 1 + draws.Intn(1+i%50000/100)}
		if w.Take(x) == api.OK {
			n[x]++
		}
	}
	for x, often := range n {
		if often > 1 {
			t.Errorf("%v: %d times", x, often)
		}
	}
	if len(n) < 1000 {
		t.Errorf("a row that tells little: %d", len(n))
	}
}

func TestNoncesThatRiseAreTaken(t *testing.T) {
	for seed := range 20 {
		draws := rand.New(rand.NewSource(int64(seed)))
		w, n := &Window{}, Nonce{1, 0}
		for range 5000 {
			if draws.Intn(50) == 0 {
				n = Nonce{n.Boot + 1 + draws.Intn(3), 0}
			}
			n.Counter += 1 + draws.Intn(1<<draws.Intn(17))
			if e := w.Take(n); e != api.OK || w.Latest() != n {
				t.Fatalf("%v: %d, %v", n, e, w.Latest())
			}
			for range draws.Intn(3) {
				w.Take(Nonce{n.Boot, n.Counter - draws.Intn(70)}) // a late one keeps none that rises out
			}
		}
	}
}

// What a counter tells is taken, all of it, boot by boot.
func TestWhatACounterTellsIsTaken(t *testing.T) {
	w := &Window{}
	for _, boot := range []int{1, 2, 3, 255, 256, 257, 40000, topBoot} {
		c := starts(t, boot)
		for range 500 {
			n, e := c.Next()
			if e != api.OK {
				t.Fatal(e)
			}
			if e := w.Take(n); e != api.OK {
				t.Errorf("%v: %d", n, e)
			}
		}
	}
}

// A sender that crashed forgot its counter: with the same boot it is refused, with the
// next one it is taken from 1 on.
func TestBehindACrash(t *testing.T) {
	for _, sent := range []int{1, 63, 64, 65, 200} {
		w := &Window{}
		for boot := 7; boot < 12; boot++ {
			c, again := starts(t, boot), starts(t, boot)
			for range sent {
				n, _ := c.Next()
				takes(t, w, api.OK, n.Boot, n.Counter)
			}
			for range sent {
				n, _ := again.Next()
				if e := w.Take(n); e != api.ErrTwice && e != api.ErrOld {
					t.Errorf("%v: %d", n, e)
				}
			}
			latest(t, w, boot, sent)
		}
	}
}

// P12.3: nil windows.

func TestNilWindow(t *testing.T) {
	var w *Window
	all := append(append(noNonces(), Nonce{}), rightNonces()...)
	for _, n := range all {
		looks(t, w, api.ErrState, n)
		if e := w.Take(n); e != api.ErrState {
			t.Errorf("%v: %d", n, e)
		}
	}
	latest(t, w, 0, 0)
	if w.Taken() != 0 || w.Taken(all...) != 0 {
		t.Error(w.Taken(all...))
	}
}

// P1 and P2: every call ends, none panics, and the same calls answer the same.

func story(w *Window, n Nonce) []any {
	b, e := Bytes(n)
	c, f := Start(n.Boot)
	m, g := c.Next()
	return []any{
		Check(n), string(b), e, f, c.Boot(), m, g, Less(w.Latest(), n),
		w.Look(n), w.Take(n), w.Look(n), w.Latest(), w.Taken(n, m, n), w.Take(m),
	}
}

func TestTheSameCallsAnswerTheSame(t *testing.T) {
	one, two := &Window{}, &Window{}
	all := append(noNonces(), rightNonces()...)
	for _, n := range all {
		if !slices.Equal(story(one, n), story(two, n)) || *one != *two {
			t.Errorf("%v", n)
		}
	}
	if one.Latest() != (Nonce{topBoot, topCounter}) {
		t.Error(one.Latest())
	}
}

// No number that another package sets makes a window panic.
func TestNumbersThatAreSet(t *testing.T) {
	numbers := []int{math.MinInt, math.MinInt + 1, math.MinInt + 7, -topCounter, -1, 0, 1, 7, topCounter, topCounter + 1, math.MaxInt}
	for _, set := range crossed(numbers, numbers) {
		for _, n := range crossed([]int{1, 7, topBoot}, []int{1, 7, topCounter}) {
			w := &Window{Nonce: set}
			w.Look(n)
			w.Take(n)
			w.Taken(n, set)
		}
	}
}

func FuzzWindow(f *testing.F) {
	f.Add(7, 100, []byte{1, 63, 64, 65, 0, 200, 130, 255})
	f.Add(0, -1, []byte{})
	f.Add(topBoot, topCounter-3, []byte{128, 129, 192, 193, 64, 250, 251})
	f.Add(1, 1, []byte{129, 129, 129, 200, 66, 66, 65, 254, 129, 128})
	f.Fuzz(func(t *testing.T, boot, counter int, calls []byte) {
		w, o := &Window{}, &told{all: map[Nonce]bool{}}
		asks(t, w, o, Nonce{boot, counter})
		for _, x := range calls {
			n := Nonce{o.top.Boot, o.top.Counter + int(x) - 128}
			if x >= 250 {
				n = Nonce{o.top.Boot + int(x) - 251, int(x) - 249}
			}
			asks(t, w, o, n)
			if w.Taken(n, n) == 2 != (o.look(n) == api.ErrTwice) {
				t.Errorf("%v: %d", n, w.Taken(n, n))
			}
		}
	})
}

func BenchmarkTake(b *testing.B) {
	var w Window
	for i := 0; b.Loop(); i++ {
		w.Take(Nonce{1, i%topCounter + 1})
	}
}
