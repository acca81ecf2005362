package cache

import (
	"bytes"
	"math"
	"math/rand"
	"slices"
	"testing"

	"vigil/api"
	"vigil/claims"
	"vigil/mac"
	"vigil/window"
)

// P15.2: Key, Look and Take.

func TestKeyLookAndTake(t *testing.T) {
	for _, c := range right() {
		b := New()
		hasNoKey(t, b, api.ErrNone, c)
		wants(t, b, api.OK, c, 5)
		hasNoKey(t, b, api.ErrState, c)
		puts(t, b, api.OK, c, mac.New(some(9)))
		hasKey(t, b, c, some(9))
		looks(t, b, api.OK, c, 7, 5)
		takes(t, b, api.OK, c, 7, 5)
		takes(t, b, api.ErrTwice, c, 7, 5)
		hasKey(t, b, c, some(9))
		b.Drop(c)
		hasNoKey(t, b, api.ErrNone, c)
		wants(t, b, api.OK, c, 5)
		hasNoKey(t, b, api.ErrState, c)
	}
}

func TestKeyLookAndTakeOfWhoHasNoEntry(t *testing.T) {
	for _, n := range []int{0, 1, 16} {
		b := with(t, fillers(0, n/2-1), fillers(n/2, n-1), 40)
		for _, c := range slices.Concat(right(), wrong(), fillers(16, 20)) {
			hasNoKey(t, b, api.ErrNone, c)
		}
		still(t, b, fillers(0, n/2-1), fillers(n/2, n-1), 40)
	}
}

// numbers is boots, or counters, that are right and that aren't.
func numbers() []int {
	return []int{math.MinInt, -1, 0, 1, 2, 3, 6, 7, 8, 63, 64, 65, 66, 70, 127, 128, 129, 65535, 65536, 1<<31 - 1, 1 << 31, math.MaxInt}
}

func TestLookAndTakeOfNoNonces(t *testing.T) {
	b := with(t, fillers(0, 2), nil, 40)
	for _, right := range []int{1, 7, 65535} {
		for _, wrong := range []int{0, -1, math.MinInt, 1 << 31, math.MaxInt} {
			for _, c := range fillers(0, 2) {
				looks(t, b, api.ErrRange, c, wrong, right)
				takes(t, b, api.ErrRange, c, wrong, right)
				looks(t, b, api.ErrRange, c, right, wrong)
				takes(t, b, api.ErrRange, c, right, wrong)
				takes(t, b, api.ErrRange, c, 65536, right)
			}
		}
	}
	still(t, b, fillers(0, 2), nil, 40)
}

// The same nonces have the same answers as of a window alone.
func TestLookAndTakeAreTheWindows(t *testing.T) {
	draws := rand.New(rand.NewSource(152))
	seen := map[api.Errno]int{}
	for range 40 {
		b, c := with(t, nil, fillers(0, 1), 40), filler(1)
		puts(t, b, api.OK, c, mac.New(some(9)))
		var w window.Window
		boot, counter := 0, 0
		for range 400 {
			if draws.Intn(60) == 0 {
				boot, counter = boot+draws.Intn(2), draws.Intn(100)
			}
			n := window.Nonce{Boot: boot + draws.Intn(20)/19, Counter: counter + draws.Intn(72) - 69}
			if draws.Intn(12) == 0 {
				n = window.Nonce{Boot: numbers()[draws.Intn(14)], Counter: numbers()[draws.Intn(22)]}
			}
			want := w.Look(n)
			seen[want]++
			looks(t, b, want, c, n.Boot, n.Counter)
			looks(t, b, want, c, n.Boot, n.Counter)
			if draws.Intn(3) > 0 {
				takes(t, b, w.Take(n), c, n.Boot, n.Counter)
			}
			boot, counter = w.Latest().Boot, w.Latest().Counter
		}
	}
	if seen[api.OK] < 300 || seen[api.ErrOld] < 300 || seen[api.ErrTwice] < 300 || seen[api.ErrRange] < 300 || len(seen) != 4 {
		t.Errorf("a row that tells little: %v", seen)
	}
}

// The window's own example, and its edge: 64 below the greatest is too old.
func TestTakeAtTheEdges(t *testing.T) {
	b := with(t, nil, fillers(0, 0), 40)
	c := filler(0)
	puts(t, b, api.OK, c, mac.New(some(9)))
	takes(t, b, api.OK, c, 1, 5)
	takes(t, b, api.OK, c, 1, 3)
	takes(t, b, api.ErrTwice, c, 1, 5)
	takes(t, b, api.OK, c, 1, 70)
	takes(t, b, api.ErrOld, c, 1, 6)
	takes(t, b, api.OK, c, 1, 7)
	takes(t, b, api.OK, c, 2, 1)
	takes(t, b, api.ErrOld, c, 1, 71)
	takes(t, b, api.OK, c, 65535, 1<<31-1)
	takes(t, b, api.ErrTwice, c, 65535, 1<<31-1)
	takes(t, b, api.ErrOld, c, 65535, 1<<31-65)
	takes(t, b, api.OK, c, 65535, 1<<31-64)
}

func TestLookChangesNothingAndTakeKeeps(t *testing.T) {
	b := with(t, fillers(0, 1), nil, 40)
	c := filler(0)
	for range 3 {
		looks(t, b, api.OK, c, 7, 6)
		looks(t, b, api.OK, c, 9, 1000)
		looks(t, b, api.ErrTwice, c, 7, 5)
		looks(t, b, api.ErrOld, c, 6, 1)
	}
	takes(t, b, api.OK, c, 7, 4)
	takes(t, b, api.OK, c, 7, 6)
	for _, counter := range []int{4, 5, 6} {
		looks(t, b, api.ErrTwice, c, 7, counter)
		takes(t, b, api.ErrTwice, c, 7, counter)
	}
	looks(t, b, api.OK, c, 7, 3)
	b.Due(48)
	b.Known()
	b.Put(c, mac.New(some(3)))
	b.Want(c, 60)
	looks(t, b, api.ErrTwice, c, 7, 6)
}

// What one sender's window takes, the others' don't know of.
func TestWindowsDontTouchEachOther(t *testing.T) {
	l := fillers(0, 15)
	b := with(t, l, nil, 40)
	for i, c := range l {
		takes(t, b, api.OK, c, 8+i, 100)
		for k, other := range l {
			want := api.OK
			if k <= i {
				want = api.ErrOld
			}
			looks(t, b, want, other, 7, 6)
		}
	}
	b.Drop(l[3])
	wants(t, b, api.OK, l[3], 50)
	puts(t, b, api.OK, l[3], mac.New(some(9)))
	takes(t, b, api.OK, l[3], 7, 5)
	for i, c := range l {
		if i != 3 {
			looks(t, b, api.ErrTwice, c, 8+i, 100)
			looks(t, b, api.OK, c, 8+i, 99)
		}
	}
}

// P15.2: Drop.

func drops(t *testing.T, b *Book, want int, l ...claims.Claims) {
	t.Helper()
	if n := b.Drop(l...); n != want {
		t.Errorf("%v: %d, not %d", l, n, want)
	}
}

// without is those of the list that aren't in the other one.
func without(l, other []claims.Claims) []claims.Claims {
	var out []claims.Claims
	for _, c := range l {
		if !slices.Contains(other, c) {
			out = append(out, c)
		}
	}
	return out
}

func TestDrop(t *testing.T) {
	known, wanted := fillers(0, 2), fillers(3, 5)
	a, b, c, d := filler(0), filler(2), filler(3), filler(5)
	other := filler(6)
	for _, of := range []struct {
		l    []claims.Claims
		want int
	}{
		{nil, 0}, {[]claims.Claims{}, 0}, {[]claims.Claims{a}, 1}, {[]claims.Claims{c}, 1}, {[]claims.Claims{c, a}, 2}, {[]claims.Claims{a, b, c, d}, 4},
		{[]claims.Claims{a, a}, 1}, {[]claims.Claims{c, c, c}, 1}, {[]claims.Claims{a, c, a, d, c, d}, 3}, {[]claims.Claims{other}, 0}, {[]claims.Claims{other, other}, 0},
		{[]claims.Claims{other, b, other, c, {}}, 2}, {wrong(), 0}, {append(wrong(), d), 1}, {right(), 0}, {fillers(0, 5), 6}, {append(fillers(0, 9), fillers(0, 9)...), 6},
	} {
		book := with(t, known, wanted, 40)
		drops(t, book, of.want, of.l...)
		drops(t, book, 0, of.l...)
		has(t, book, without(known, of.l), without(wanted, of.l))
		for i, c := range known {
			if slices.Contains(of.l, c) {
				hasNoKey(t, book, api.ErrNone, c)
			} else {
				hasKey(t, book, c, some(i+1))
				looks(t, book, api.ErrTwice, c, 7, 5)
			}
		}
		for _, c := range wanted {
			if slices.Contains(of.l, c) {
				hasNoKey(t, book, api.ErrNone, c)
			} else {
				hasNoKey(t, book, api.ErrState, c)
			}
		}
		dues(t, book, 48, without(wanted, of.l)...)
	}
}

func TestDropOfAnEmptyBook(t *testing.T) {
	b := New()
	drops(t, b, 0)
	drops(t, b, 0, slices.Concat(right(), wrong(), fillers(0, 20))...)
	has(t, b, nil, nil)
}

// P15.2: Only.

func leaves(t *testing.T, b *Book, gone []claims.Claims, l ...claims.Claims) {
	t.Helper()
	if got := b.Only(l...); !slices.Equal(got, gone) {
		t.Errorf("%v: %v, not %v", l, got, gone)
	}
}

func TestOnly(t *testing.T) {
	known, wanted := fillers(0, 2), fillers(3, 5)
	all := fillers(0, 5)
	for _, l := range [][]claims.Claims{
		nil, {}, all, {filler(0)}, {filler(5)}, {filler(4), filler(1)}, {filler(3), filler(0), filler(5), filler(2)}, fillers(1, 5), fillers(0, 4),
		{filler(2), filler(2)}, {filler(4), filler(2), filler(4), filler(2)}, {filler(6)}, fillers(6, 30), {filler(30), filler(3), filler(6)}, {{}, filler(1), {}},
		wrong(), append(wrong(), all...), right(), append(right(), filler(5), filler(0)), slices.Concat(all, all, all), fillers(0, 2), fillers(3, 5),
	} {
		b := with(t, known, wanted, 40)
		leaves(t, b, without(all, l), l...)
		has(t, b, without(known, without(all, l)), without(wanted, without(all, l)))
		for i, c := range known {
			if slices.Contains(l, c) {
				hasKey(t, b, c, some(i+1))
				looks(t, b, api.ErrTwice, c, 7, 5)
			} else {
				hasNoKey(t, b, api.ErrNone, c)
			}
		}
		for _, c := range wanted {
			if !slices.Contains(l, c) {
				hasNoKey(t, b, api.ErrNone, c)
			}
		}
		leaves(t, b, nil, l...)
		dues(t, b, 47)
		dues(t, b, 48, without(wanted, without(all, l))...)
	}
}

func TestOnlyOfAnEmptyBook(t *testing.T) {
	b := New()
	leaves(t, b, nil)
	leaves(t, b, nil, slices.Concat(right(), wrong(), fillers(0, 20))...)
	has(t, b, nil, nil)
}

func TestOnlyIsInOrder(t *testing.T) {
	draws := rand.New(rand.NewSource(153))
	l := inOrder()
	for range 50 {
		b := New()
		for _, i := range draws.Perm(len(l)) {
			wants(t, b, api.OK, l[i], 5)
			if draws.Intn(2) == 0 {
				puts(t, b, api.OK, l[i], mac.New(some(i)))
			}
		}
		leaves(t, b, slices.Concat(l[:4], l[5:11], l[12:]), l[11], l[4])
		leaves(t, b, []claims.Claims{l[4], l[11]})
		leaves(t, b, nil)
	}
}

// P15.2: Known, Wanted and Len.

func TestKnownAndWantedAreInOrder(t *testing.T) {
	draws := rand.New(rand.NewSource(154))
	l := inOrder()
	for range 50 {
		b := New()
		isKnown := map[claims.Claims]bool{}
		for _, i := range draws.Perm(len(l)) {
			wants(t, b, api.OK, l[i], 5)
			if draws.Intn(2) == 0 {
				puts(t, b, api.OK, l[i], mac.New(some(i)))
				isKnown[l[i]] = true
			}
		}
		var known, wanted []claims.Claims
		for _, c := range l {
			if isKnown[c] {
				known = append(known, c)
			} else {
				wanted = append(wanted, c)
			}
		}
		has(t, b, known, wanted)
	}
}

// Behind each of the calls, those that are refused among them.
func TestKnownWantedAndLenBehindEachCall(t *testing.T) {
	b := New()
	x, y, z := filler(0), filler(1), filler(2)
	none := []claims.Claims{}
	for i, step := range []struct {
		call          func()
		known, wanted []claims.Claims
	}{
		{func() {}, none, none},
		{func() { b.Put(x, mac.New(nil)) }, none, none},
		{func() { b.Want(claims.Claims{}, 5) }, none, none},
		{func() { b.Want(y, 5) }, none, []claims.Claims{y}},
		{func() { b.Want(y, 6) }, none, []claims.Claims{y}},
		{func() { b.Want(x, 7) }, none, []claims.Claims{x, y}},
		{func() { b.Due(50) }, none, []claims.Claims{x, y}},
		{func() { b.Put(y, nil) }, none, []claims.Claims{x, y}},
		{func() { b.Put(y, mac.New(nil)) }, []claims.Claims{y}, []claims.Claims{x}},
		{func() { b.Put(y, mac.New(nil)) }, []claims.Claims{y}, []claims.Claims{x}},
		{func() { b.Want(z, 8) }, []claims.Claims{y}, []claims.Claims{x, z}},
		{func() { b.Put(z, mac.New(nil)) }, []claims.Claims{y, z}, []claims.Claims{x}},
		{func() { b.Key(x) }, []claims.Claims{y, z}, []claims.Claims{x}},
		{func() { b.Key(y) }, []claims.Claims{y, z}, []claims.Claims{x}},
		{func() { b.Look(z, window.Nonce{Boot: 7, Counter: 5}) }, []claims.Claims{y, z}, []claims.Claims{x}},
		{func() { b.Take(z, window.Nonce{Boot: 7, Counter: 5}) }, []claims.Claims{y, z}, []claims.Claims{x}},
		{func() { b.Take(x, window.Nonce{Boot: 7, Counter: 5}) }, []claims.Claims{y, z}, []claims.Claims{x}},
		{func() { b.Drop(y, y) }, []claims.Claims{z}, []claims.Claims{x}},
		{func() { b.Want(y, 9) }, []claims.Claims{z}, []claims.Claims{x, y}},
		{func() { b.Only(z, y) }, []claims.Claims{z}, []claims.Claims{y}},
		{func() { b.Only(y) }, none, []claims.Claims{y}},
		{func() { b.Drop(y, z) }, none, none},
	} {
		step.call()
		if k, w := b.Known(), b.Wanted(); !slices.Equal(k, step.known) || !slices.Equal(w, step.wanted) || b.Len() != len(k)+len(w) {
			t.Errorf("%d: %v, %v, %d", i, k, w, b.Len())
		}
	}
}

// P15.2: what is handed in isn't kept or changed, and what is handed out isn't shared.

func TestABookKeepsKeysOfItsOwn(t *testing.T) {
	b, c := New(), filler(0)
	wants(t, b, api.OK, c, 5)
	in := mac.New(some(20))
	puts(t, b, api.OK, c, in)
	if !bytes.Equal(in.Bytes(), some(20)) {
		t.Error("what was handed in is changed")
	}
	*in = *mac.New(some(9))
	for range 3 {
		hasKey(t, b, c, some(20))
		k, _ := b.Key(c)
		clear(k.Bytes())
		*k = mac.Key{}
	}
	k, _ := b.Key(c)
	b.Drop(c)
	wants(t, b, api.OK, c, 5)
	puts(t, b, api.OK, c, mac.New(some(9)))
	if !bytes.Equal(k.Bytes(), some(20)) {
		t.Error("what was handed out is changed")
	}
}

func TestListsThatAreHandedInAreNotChanged(t *testing.T) {
	in := append(make([]claims.Claims, 0, 12), filler(3), filler(0), filler(3), claims.Claims{}, filler(9), filler(1))
	before := slices.Clone(in[:cap(in)])
	b := with(t, fillers(0, 1), fillers(2, 5), 40)
	leaves(t, b, []claims.Claims{filler(2), filler(4), filler(5)}, in...)
	if !slices.Equal(in[:cap(in)], before) {
		t.Error("what was handed to Only is changed")
	}
	drops(t, b, 2, in[:2]...)
	drops(t, b, 1, in...)
	if !slices.Equal(in[:cap(in)], before) {
		t.Error("what was handed to Drop is changed")
	}
	b = with(t, fillers(0, 1), fillers(2, 5), 40)
	b.Only(in...)
	clear(in)
	has(t, b, fillers(0, 1), []claims.Claims{filler(3)})
}

// lists is all lists that the book answers, of which Due and Only change it.
func lists(b *Book) [][]claims.Claims {
	return [][]claims.Claims{b.Known(), b.Wanted(), b.Known(), b.Wanted(), b.Due(60), b.Only(filler(0), filler(1), filler(3), filler(4)), b.Due(80)}
}

func TestListsThatAreHandedOutAreNotShared(t *testing.T) {
	b := with(t, fillers(0, 2), fillers(3, 5), 40)
	want := lists(with(t, fillers(0, 2), fillers(3, 5), 40))
	got := lists(b)
	for i := range got {
		if len(got[i]) == 0 || !slices.Equal(got[i], want[i]) {
			t.Fatal(i, got[i], want[i])
		}
		for k := range got[i][:cap(got[i])] {
			got[i][:cap(got[i])][k] = claims.Claims{Id: 77}
		}
		for k := i + 1; k < len(got); k++ {
			if !slices.Equal(got[k], want[k]) {
				t.Errorf("%d shares with %d: %v", k, i, got[k])
			}
		}
	}
	has(t, b, fillers(0, 1), fillers(3, 4))
	dues(t, b, 88, fillers(3, 4)...)
}

func TestListsAreNotChangedByLaterCalls(t *testing.T) {
	b := with(t, fillers(0, 2), fillers(3, 5), 40)
	got := lists(b)
	before := make([][]claims.Claims, len(got))
	for i, l := range got {
		before[i] = slices.Clone(l)
	}
	puts(t, b, api.OK, filler(3), mac.New(some(9)))
	wants(t, b, api.OK, claims.Claims{Id: 1, Serial: 1}, 80)
	wants(t, b, api.OK, filler(9), 80)
	b.Due(100)
	b.Drop(filler(0), filler(4))
	b.Only(filler(1))
	b.Drop(filler(1))
	for i, l := range got {
		if !slices.Equal(l, before[i]) {
			t.Errorf("%d: %v, not %v", i, l, before[i])
		}
	}
}
