package cache

import (
	"bytes"
	"math"
	"math/rand"
	"reflect"
	"slices"
	"testing"

	"vigil/api"
	"vigil/claims"
	"vigil/mac"
	"vigil/window"
)

// some is so many bytes, no two neighbours of which are the same.
func some(n int) []byte {
	b := make([]byte, n)
	for i := range b {
		b[i] = byte(i*37 + i/64*11 + 5)
	}
	return b
}

// keyBytes is the bytes of some keys, of any length.
func keyBytes() [][]byte {
	return [][]byte{nil, {0}, []byte("a"), make([]byte, 16), some(16), some(32), some(64), some(65), some(200)}
}

// right is claims at the ends of their limits and within them.
func right() []claims.Claims {
	var out []claims.Claims
	for _, id := range []int{1, 258, 65535} {
		for _, mask := range []int{0, 3, 255} {
			for _, expiry := range []int{0, 5, 1 << 30} {
				for _, serial := range []int{1, 256, 65535} {
					out = append(out, claims.Claims{Id: id, Roles: mask, Expiry: expiry, Serial: serial})
				}
			}
		}
	}
	return out
}

// wrong is claims of which a number, or all of them, isn't within its limits.
func wrong() []claims.Claims {
	return []claims.Claims{
		{}, {Id: 0, Roles: 3, Expiry: 5, Serial: 7}, {Id: -1, Roles: 3, Expiry: 5, Serial: 7}, {Id: 65536, Roles: 3, Expiry: 5, Serial: 7},
		{Id: 258, Roles: -1, Expiry: 5, Serial: 7}, {Id: 258, Roles: 256, Expiry: 5, Serial: 7},
		{Id: 258, Roles: 3, Expiry: -1, Serial: 7}, {Id: 258, Roles: 3, Expiry: 1<<30 + 1, Serial: 7},
		{Id: 258, Roles: 3, Expiry: 5, Serial: 0}, {Id: 258, Roles: 3, Expiry: 5, Serial: -1}, {Id: 258, Roles: 3, Expiry: 5, Serial: 65536},
		{Id: math.MinInt, Roles: math.MinInt, Expiry: math.MinInt, Serial: math.MinInt},
		{Id: math.MaxInt, Roles: math.MaxInt, Expiry: math.MaxInt, Serial: math.MaxInt},
	}
}

// inOrder is 16 claims by Compare: by serial, then identity, then expiry, then mask.
func inOrder() []claims.Claims {
	return []claims.Claims{
		{Id: 65535, Roles: 255, Expiry: 1 << 30, Serial: 1},
		{Id: 1, Roles: 0, Expiry: 0, Serial: 2},
		{Id: 1, Roles: 1, Expiry: 0, Serial: 2},
		{Id: 1, Roles: 255, Expiry: 0, Serial: 2},
		{Id: 1, Roles: 0, Expiry: 1, Serial: 2},
		{Id: 1, Roles: 0, Expiry: 256, Serial: 2},
		{Id: 2, Roles: 9, Expiry: 0, Serial: 2},
		{Id: 256, Roles: 2, Expiry: 7, Serial: 2},
		{Id: 256, Roles: 3, Expiry: 7, Serial: 2},
		{Id: 9, Roles: 3, Expiry: 7, Serial: 255},
		{Id: 8, Roles: 3, Expiry: 7, Serial: 256},
		{Id: 8, Roles: 2, Expiry: 8, Serial: 256},
		{Id: 7, Roles: 3, Expiry: 7, Serial: 257},
		{Id: 1, Roles: 0, Expiry: 0, Serial: 65535},
		{Id: 65535, Roles: 0, Expiry: 0, Serial: 65535},
		{Id: 65535, Roles: 1, Expiry: 0, Serial: 65535},
	}
}

// filler is claims that no other list here has; they rise with n.
func filler(n int) claims.Claims {
	return claims.Claims{Id: 3000 - n, Expiry: 9, Serial: 1000 + n}
}

func fillers(from, to int) []claims.Claims {
	var l []claims.Claims
	for n := from; n <= to; n++ {
		l = append(l, filler(n))
	}
	return l
}

func wants(t *testing.T, b *Book, want api.Errno, c claims.Claims, tick int) {
	t.Helper()
	if e := b.Want(c, tick); e != want {
		t.Errorf("%v at %d: %d, not %d", c, tick, e, want)
	}
}

func dues(t *testing.T, b *Book, tick int, want ...claims.Claims) {
	t.Helper()
	if l := b.Due(tick); !slices.Equal(l, want) {
		t.Errorf("at %d: %v, not %v", tick, l, want)
	}
}

func puts(t *testing.T, b *Book, want api.Errno, c claims.Claims, key *mac.Key) {
	t.Helper()
	if e := b.Put(c, key); e != want {
		t.Errorf("%v: %d, not %d", c, e, want)
	}
}

// hasKey fails unless the claims' key is known, and is these bytes.
func hasKey(t *testing.T, b *Book, c claims.Claims, want []byte) {
	t.Helper()
	if k, e := b.Key(c); e != api.OK || k == nil || !bytes.Equal(k.Bytes(), want) {
		t.Errorf("%v: %x, %d, not %x", c, k.Bytes(), e, want)
	}
}

// hasNoKey fails unless Key, Look and Take tell this error, of a nonce that is right and
// of one that isn't.
func hasNoKey(t *testing.T, b *Book, want api.Errno, c claims.Claims) {
	t.Helper()
	if k, e := b.Key(c); e != want || k != nil {
		t.Errorf("%v: %x, %d, not %d", c, k.Bytes(), e, want)
	}
	for _, n := range []window.Nonce{{Boot: 1, Counter: 1}, {Boot: 65535, Counter: 1<<31 - 1}, {}, {Boot: -1, Counter: 1 << 31}} {
		looks(t, b, want, c, n.Boot, n.Counter)
		takes(t, b, want, c, n.Boot, n.Counter)
	}
}

func looks(t *testing.T, b *Book, want api.Errno, c claims.Claims, boot, counter int) {
	t.Helper()
	if e := b.Look(c, window.Nonce{Boot: boot, Counter: counter}); e != want {
		t.Errorf("%v, look at %d %d: %d, not %d", c, boot, counter, e, want)
	}
}

func takes(t *testing.T, b *Book, want api.Errno, c claims.Claims, boot, counter int) {
	t.Helper()
	if e := b.Take(c, window.Nonce{Boot: boot, Counter: counter}); e != want {
		t.Errorf("%v, take %d %d: %d, not %d", c, boot, counter, e, want)
	}
}

// has fails unless the book's entries are those that are known and those that are wanted,
// in order.
func has(t *testing.T, b *Book, known, wanted []claims.Claims) {
	t.Helper()
	if k, w := b.Known(), b.Wanted(); !slices.Equal(k, known) || !slices.Equal(w, wanted) || b.Len() != len(known)+len(wanted) {
		t.Errorf("%v, %v, %d, not %v, %v", k, w, b.Len(), known, wanted)
	}
}

// with is a book of which the first ones are known, each with a key of its own and the
// nonce 7 5 taken, and the others wanted, asked for at the tick.
func with(t *testing.T, known, wanted []claims.Claims, tick int) *Book {
	t.Helper()
	b := New()
	for i, c := range slices.Concat(known, wanted) {
		wants(t, b, api.OK, c, tick)
		if i < len(known) {
			puts(t, b, api.OK, c, mac.New(some(i+1)))
			takes(t, b, api.OK, c, 7, 5)
		}
	}
	has(t, b, known, wanted)
	return b
}

// still fails unless the book is as with made it.
func still(t *testing.T, b *Book, known, wanted []claims.Claims, tick int) {
	t.Helper()
	has(t, b, known, wanted)
	for i, c := range known {
		hasKey(t, b, c, some(i+1))
		looks(t, b, api.ErrTwice, c, 7, 5)
		looks(t, b, api.OK, c, 7, 4)
	}
	for _, c := range wanted {
		hasNoKey(t, b, api.ErrState, c)
	}
	dues(t, b, tick+7)
	dues(t, b, tick+8, wanted...)
}

func TestTheNumbers(t *testing.T) {
	b := New()
	c, d := filler(0), filler(1)
	_, e := b.Key(c)
	f, g, h := b.Want(c, 5), b.Want(c, 5), b.Want(claims.Claims{}, 5)
	_, i := b.Key(c)
	j, k := b.Put(d, nil), b.Put(d, mac.New(nil))
	for n := 1; n < 16; n++ {
		wants(t, b, 0, filler(n), 5)
	}
	l, m := b.Want(filler(16), 5), (*Book)(nil).Want(c, 5)
	if e != 7 || f != 0 || g != 8 || h != 10 || i != 11 || j != 1 || k != 7 || l != 6 || m != 11 || Retry != 8 {
		t.Error(e, f, g, h, i, j, k, l, m, Retry)
	}
}

// A method beside the chapter's, as one that an entry's window would be, were an answer
// of the book that nothing asks for.
func TestABookHasTheChaptersMethods(t *testing.T) {
	want := []string{"Drop", "Due", "Key", "Known", "Len", "Look", "Only", "Put", "Take", "Want", "Wanted"}
	var got []string
	for m := range reflect.TypeFor[*Book]().Methods() {
		got = append(got, m.Name)
	}
	if !slices.Equal(got, want) {
		t.Error(got)
	}
}

// P15.1: New and Want.

func TestNew(t *testing.T) {
	one, two := New(), New()
	if one == nil || two == nil || one == two {
		t.Fatal(one, two)
	}
	has(t, one, nil, nil)
	wants(t, one, api.OK, filler(0), 0)
	has(t, one, nil, fillers(0, 0))
	has(t, two, nil, nil)
}

func TestWantOfRightClaims(t *testing.T) {
	for _, c := range right() {
		b := New()
		wants(t, b, api.OK, c, 5)
		has(t, b, nil, []claims.Claims{c})
		hasNoKey(t, b, api.ErrState, c)
		dues(t, b, 12)
		dues(t, b, 13, c)
	}
}

// Whatever the book has, of claims that aren't right that is told.
func TestWantOfWrongClaims(t *testing.T) {
	for _, n := range []int{0, 1, 15, 16} {
		for known := range n + 1 {
			b := with(t, fillers(0, known-1), fillers(known, n-1), 40)
			for _, c := range wrong() {
				for _, tick := range []int{0, 40, 41, 1 << 30, -1} {
					wants(t, b, api.ErrRange, c, tick)
				}
				hasNoKey(t, b, api.ErrNone, c)
			}
			still(t, b, fillers(0, known-1), fillers(known, n-1), 40)
		}
	}
}

// Who has an entry keeps it, and was asked for when it was.
func TestWantTwice(t *testing.T) {
	for _, n := range []int{1, 2, 15, 16} {
		for known := range n + 1 {
			b := with(t, fillers(0, known-1), fillers(known, n-1), 40)
			for _, c := range fillers(0, n-1) {
				for _, tick := range []int{40, 0, 41, 47, 48, 1 << 30, -1} {
					wants(t, b, api.ErrTwice, c, tick)
				}
			}
			still(t, b, fillers(0, known-1), fillers(known, n-1), 40)
		}
	}
}

// Claims that differ in one of the four have an entry of their own.
func TestEntriesAreByClaims(t *testing.T) {
	c := claims.Claims{Id: 258, Roles: 3, Expiry: 5, Serial: 7}
	l := []claims.Claims{c, c, c, c, c}
	l[1].Roles++
	l[2].Expiry++
	l[3].Id++
	l[4].Serial++
	b := New()
	for i, c := range l {
		hasNoKey(t, b, api.ErrNone, c)
		wants(t, b, api.OK, c, i)
		puts(t, b, api.OK, c, mac.New(some(i)))
		takes(t, b, api.OK, c, 7, i+1)
	}
	for i, c := range l {
		hasKey(t, b, c, some(i))
		for n := range l {
			want := api.OK
			if n == i {
				want = api.ErrTwice
			}
			looks(t, b, want, c, 7, n+1)
		}
	}
	has(t, b, l, nil)
}

func TestWantOfThe16thAndThe17th(t *testing.T) {
	for _, known := range []int{0, 1, 15} {
		b := with(t, fillers(0, known-1), fillers(known, 14), 40)
		wants(t, b, api.OK, filler(15), 40)
		for _, c := range append(right(), fillers(16, 40)...) {
			wants(t, b, api.ErrFull, c, 40)
			wants(t, b, api.ErrFull, c, 100)
			hasNoKey(t, b, api.ErrNone, c)
			puts(t, b, api.ErrNone, c, mac.New(some(9)))
		}
		still(t, b, fillers(0, known-1), fillers(known, 15), 40)
	}
	wants(t, with(t, fillers(0, 15), nil, 40), api.ErrFull, filler(16), 40)
}

func TestWhichErrorIsTold(t *testing.T) {
	b := with(t, fillers(0, 7), fillers(8, 15), 40)
	wants(t, b, api.ErrRange, claims.Claims{}, 40)
	wants(t, b, api.ErrTwice, filler(0), 40)
	wants(t, b, api.ErrTwice, filler(15), 40)
	wants(t, b, api.ErrFull, filler(16), 40)
	puts(t, b, api.ErrArg, claims.Claims{}, nil)
	puts(t, b, api.ErrArg, filler(0), nil)
	puts(t, b, api.ErrArg, filler(15), nil)
	puts(t, b, api.ErrArg, filler(16), nil)
}

// P15.1: Due.

// The example: wanted at 5, due at 13, and then at 21.
func TestTheExample(t *testing.T) {
	b, c := New(), filler(0)
	wants(t, b, api.OK, c, 5)
	for tick := range 30 {
		if tick == 13 || tick == 21 || tick == 29 {
			dues(t, b, tick, c)
		} else {
			dues(t, b, tick)
		}
	}
}

func TestDueOfAnEmptyBook(t *testing.T) {
	b := New()
	for _, tick := range []int{0, 1, 8, 1 << 30, -1, math.MinInt, math.MaxInt} {
		dues(t, b, tick)
	}
	wants(t, b, api.OK, filler(0), 5)
	b.Drop(filler(0))
	dues(t, b, 13)
	dues(t, b, 1<<30)
}

// One tick before it, at it, and behind it: from then on it counts as asked for at the
// tick that was told, not at that at which it was due.
func TestDueAtEachTick(t *testing.T) {
	for _, asked := range []int{0, 1, 5, 7, 8, 100, 1<<30 - 20, 1<<30 - 8, 1 << 30} {
		for late := range 20 {
			b, c := New(), filler(0)
			wants(t, b, api.OK, c, asked)
			dues(t, b, asked)
			dues(t, b, asked+7)
			told := asked + 8 + late
			dues(t, b, told, c)
			for tick := told - 20; tick < told+8; tick++ {
				dues(t, b, tick)
			}
			dues(t, b, told+8, c)
			dues(t, b, told+8)
			dues(t, b, told+15)
			dues(t, b, told+17, c)
			dues(t, b, told+24)
			dues(t, b, told+25, c)
			has(t, b, nil, []claims.Claims{c})
		}
	}
}

// Ticks that go back: nothing is due ahead of its time, and nothing is forgotten by it.
func TestDueAtAnEarlierTick(t *testing.T) {
	b, c := New(), filler(0)
	wants(t, b, api.OK, c, 100)
	for _, tick := range []int{99, 92, 91, 50, 0, -1, -100, 107} {
		dues(t, b, tick)
	}
	dues(t, b, 108, c)
	for _, tick := range []int{108, 107, 100, 99, 0, 115} {
		dues(t, b, tick)
	}
	dues(t, b, 116, c)
}

func TestDueOfSeveral(t *testing.T) {
	b := New()
	for n := range 10 {
		wants(t, b, api.OK, filler(9-n), n) // filler 9 first, at 0
	}
	puts(t, b, api.OK, filler(8), mac.New(some(9)))
	puts(t, b, api.OK, filler(3), mac.New(some(9)))
	dues(t, b, 7)
	dues(t, b, 8, filler(9))
	dues(t, b, 11, filler(6), filler(7)) // those of 2 and 3
	dues(t, b, 11)
	dues(t, b, 15, filler(2), filler(4), filler(5))
	dues(t, b, 16, filler(1), filler(9))
	dues(t, b, 18, filler(0))
	dues(t, b, 19, filler(6), filler(7))
	puts(t, b, api.OK, filler(2), mac.New(some(9)))
	dues(t, b, 1000, filler(0), filler(1), filler(4), filler(5), filler(6), filler(7), filler(9))
	dues(t, b, 1007)
	puts(t, b, api.OK, filler(9), mac.New(some(9)))
	b.Drop(filler(4), filler(8))
	dues(t, b, 1008, filler(0), filler(1), filler(5), filler(6), filler(7))
	has(t, b, []claims.Claims{filler(2), filler(3), filler(9)}, []claims.Claims{filler(0), filler(1), filler(5), filler(6), filler(7)})
}

func TestDueIsInOrder(t *testing.T) {
	draws := rand.New(rand.NewSource(151))
	l := inOrder()
	for range 50 {
		b := New()
		for _, i := range draws.Perm(len(l)) {
			wants(t, b, api.OK, l[i], draws.Intn(8))
		}
		dues(t, b, 15, l...)
		dues(t, b, 22)
		dues(t, b, 23, l...)
		puts(t, b, api.OK, l[4], mac.New(some(9)))
		b.Drop(l[11])
		dues(t, b, 31, slices.Concat(l[:4], l[5:11], l[12:])...)
	}
}

func TestDueOfWhoIsKnown(t *testing.T) {
	b := with(t, fillers(0, 15), nil, 0)
	for _, tick := range []int{0, 7, 8, 9, 16, 1 << 30} {
		dues(t, b, tick)
	}
	still(t, b, fillers(0, 15), nil, 0)
}

// Of ticks that are none the document tells no error: they are taken as they are.
func TestTicksOutOfTheirLimits(t *testing.T) {
	for _, asked := range []int{-1, -8, -1 << 40, math.MinInt, math.MinInt + 1, 1<<30 + 1, 1 << 40, math.MaxInt - 9, math.MaxInt - 8} {
		b, c := New(), filler(0)
		wants(t, b, api.OK, c, asked)
		for i := range 8 {
			dues(t, b, asked+i)
		}
		dues(t, b, math.MinInt)
		dues(t, b, asked+8, c)
		dues(t, b, asked+8)
	}
	for _, asked := range []int{math.MaxInt - 7, math.MaxInt - 1, math.MaxInt} {
		b := New()
		wants(t, b, api.OK, filler(0), asked)
		for _, tick := range []int{math.MinInt, math.MinInt + 1, math.MinInt + 7, math.MinInt + 8, -1, 0, math.MaxInt - 8, math.MaxInt - 1, math.MaxInt} {
			dues(t, b, tick)
		}
	}
	b, c := New(), filler(0)
	wants(t, b, api.OK, c, math.MinInt)
	dues(t, b, math.MaxInt, c)
	dues(t, b, math.MaxInt)
	dues(t, b, math.MinInt)
}

// P15.1: Put.

func TestPut(t *testing.T) {
	for i, c := range right() {
		for _, key := range keyBytes() {
			b := New()
			wants(t, b, api.OK, c, i)
			puts(t, b, api.OK, c, mac.New(key))
			hasKey(t, b, c, key)
			has(t, b, []claims.Claims{c}, nil)
			dues(t, b, i+8)
			dues(t, b, 1<<30)
			puts(t, b, api.ErrNone, c, mac.New(some(9)))
			hasKey(t, b, c, key)
		}
	}
}

// The nil key is told first, whosever it is.
func TestPutOfANilKey(t *testing.T) {
	b := with(t, fillers(0, 1), fillers(2, 3), 40)
	for _, c := range slices.Concat(fillers(0, 5), right(), wrong()) {
		puts(t, b, api.ErrArg, c, nil)
	}
	still(t, b, fillers(0, 1), fillers(2, 3), 40)
}

func TestPutOfWhoIsNotWanted(t *testing.T) {
	for _, known := range []int{0, 1, 2, 16} {
		b := with(t, fillers(0, known-1), nil, 40)
		for _, c := range slices.Concat(fillers(0, 20), right(), wrong()) {
			puts(t, b, api.ErrNone, c, mac.New(some(99)))
		}
		still(t, b, fillers(0, known-1), nil, 40)
	}
}

func TestAZeroKeyIsPut(t *testing.T) {
	b, c := New(), filler(0)
	wants(t, b, api.OK, c, 5)
	puts(t, b, api.OK, c, &mac.Key{})
	hasKey(t, b, c, nil)
	has(t, b, fillers(0, 0), nil)
	dues(t, b, 13)
	puts(t, b, api.ErrNone, c, mac.New(some(9)))
}

// Who is put has a window that took none, also where it was known before.
func TestPutHasAWindowThatTookNone(t *testing.T) {
	b, c := New(), filler(0)
	for range 3 {
		wants(t, b, api.OK, c, 5)
		puts(t, b, api.OK, c, mac.New(some(9)))
		for _, counter := range []int{1, 2, 64, 65, 1<<31 - 1} {
			looks(t, b, api.OK, c, 1, counter)
		}
		takes(t, b, api.OK, c, 1, 1)
		takes(t, b, api.OK, c, 65535, 1<<31-1)
		takes(t, b, api.ErrOld, c, 1, 2)
		if n := b.Drop(c); n != 1 {
			t.Error(n)
		}
	}
}

// A key of one leaves the others as they were.
func TestPutAmongOthers(t *testing.T) {
	l := fillers(0, 15)
	b := with(t, nil, l, 40)
	for i, c := range l {
		puts(t, b, api.OK, c, mac.New(some(i+1)))
		has(t, b, l[:i+1], l[i+1:])
		for _, other := range l[i+1:] {
			hasNoKey(t, b, api.ErrState, other)
		}
		takes(t, b, api.OK, c, 7, 5)
	}
	still(t, b, l, nil, 40)
}
