package cookie

import (
	"bytes"
	"crypto/hmac"
	"crypto/sha256"
	"encoding/binary"
	"encoding/hex"
	"math"
	"slices"
	"sync"
	"testing"

	"vigil/api"
)

// some is so many bytes, no two neighbours of which are the same.
func some(n int) []byte {
	b := make([]byte, n)
	for i := range b {
		b[i] = byte(i*37 + i/64*11 + 5)
	}
	return b
}

// rightCookie is a cookie of an epoch, by the library's own means.
func rightCookie(key []byte, epoch uint32, address uint16, asks ...[]byte) [16]byte {
	h := hmac.New(sha256.New, key)
	parts := [][]byte{[]byte("cookie"), binary.BigEndian.AppendUint32(nil, epoch), binary.BigEndian.AppendUint16(nil, address)}
	for _, p := range append(parts, asks...) {
		h.Write(binary.BigEndian.AppendUint32(nil, uint32(len(p))))
		h.Write(p)
	}
	return [16]byte(h.Sum(nil)[:16])
}

// keys is the bytes of some keys, the shortest first.
func keys() [][]byte {
	return [][]byte{some(16), make([]byte, 16), some(17), some(32), some(64), some(65), some(70), some(200)}
}

// addresses is those at the ends of their limits, and some within them.
func addresses() []int {
	return []int{0, 1, 7, 255, 256, 258, 32768, 65534, 65535}
}

// wrongNumbers is numbers that are neither an address nor a tick.
func wrongNumbers() []int {
	return []int{-1, -7, -64, -65536, 1<<30 + 1, 1<<30 + 64, 1 << 31, 1 << 32, 1<<32 + 7, 1 << 62, math.MaxInt, math.MinInt}
}

func wrongAddresses() []int {
	return append(wrongNumbers(), 65536, 65537, 65536+7, 1<<30)
}

// ticks is the first and the last ones of some epochs, and some within them.
func ticks() []int {
	return []int{0, 1, 63, 64, 70, 127, 128, 191, 192, 64*256 - 1, 64 * 256, 64*65536 - 1, 64 * 65536, 64*65536*200 + 5, 1<<30 - 64, 1<<30 - 1, 1 << 30}
}

// lists is nothing, one part, empty parts, and several parts that ask; no two are the
// same.
func lists() [][][]byte {
	return [][][]byte{
		nil, {nil}, {nil, nil}, {[]byte("a")}, {some(9)}, {some(64)}, {some(300)}, {some(65536)},
		{[]byte("ab"), nil}, {nil, []byte("ab")}, {[]byte("a"), []byte("b")}, {[]byte("ab")}, {[]byte("b"), []byte("a")},
		{[]byte("cookie")}, {make([]byte, 4), make([]byte, 2)}, {some(64), some(64), nil, some(70), []byte("c")},
	}
}

func baker(t *testing.T, key []byte) *Baker {
	t.Helper()
	b, e := New(key)
	if b == nil || e != api.OK {
		t.Fatalf("%v, %d", b, e)
	}
	return b
}

func bakes(t *testing.T, b *Baker, address, tick int, asks ...[]byte) [16]byte {
	t.Helper()
	c, e := b.Bake(address, tick, asks...)
	if e != api.OK {
		t.Fatalf("%d at %d: %d", address, tick, e)
	}
	return c
}

func checks(t *testing.T, b *Baker, want api.Errno, c []byte, address, tick int, asks ...[]byte) {
	t.Helper()
	if e := b.Check(c, address, tick, asks...); e != want {
		t.Errorf("%x of %d at %d: %d, not %d", c, address, tick, e, want)
	}
}

func counted(t *testing.T, b *Baker, baked, stale int) {
	t.Helper()
	if n, m := b.Counts(); n != baked || m != stale {
		t.Errorf("%d and %d, not %d and %d", n, m, baked, stale)
	}
}

func TestTheNumbers(t *testing.T) {
	if Period != 64 {
		t.Error("the period")
	}
	b, e := New(some(16))
	_, f := New(nil)
	_, g := b.Bake(-1, 0)
	h := b.Check(nil, 0, -1)
	i := b.Check(nil, 0, 0)
	j := b.Check(make([]byte, 16), 0, 0)
	_, k := (*Baker)(nil).Bake(0, 0)
	l := (*Baker)(nil).Check(nil, 0, 0)
	if e != 0 || f != 1 || g != 10 || h != 10 || i != 3 || j != 9 || k != 11 || l != 11 {
		t.Error(e, f, g, h, i, j, k, l)
	}
}

// P10.1: New.

func TestNew(t *testing.T) {
	for n := range 201 {
		b, e := New(some(n))
		switch {
		case n < 16 && (b != nil || e != api.ErrArg):
			t.Errorf("%d bytes: %v, %d", n, b, e)
		case n >= 16 && (b == nil || e != api.OK):
			t.Errorf("%d bytes: %v, %d", n, b, e)
		case n >= 16:
			counted(t, b, 0, 0)
		}
	}
	if b, e := New(nil); b != nil || e != api.ErrArg {
		t.Error(b, e)
	}
}

// P10.1: Bake.

func TestBake(t *testing.T) {
	for _, key := range keys() {
		b := baker(t, key)
		n := 0
		for _, address := range addresses() {
			for _, tick := range ticks() {
				for i, asks := range lists()[:7] {
					n++
					if c := bakes(t, b, address, tick, asks...); c != rightCookie(key, uint32(tick/64), uint16(address), asks...) {
						t.Errorf("key of %d, %d at %d, %d: %x", len(key), address, tick, i, c)
					}
				}
			}
		}
		counted(t, b, n, 0)
	}
}

func TestBakeOfAllLists(t *testing.T) {
	b := baker(t, some(16))
	for i, asks := range lists() {
		if c := bakes(t, b, 258, 70, asks...); c != rightCookie(some(16), 1, 258, asks...) {
			t.Errorf("%d: %x", i, c)
		}
	}
}

// Cookies of one key, as another program works them out.
func TestKnownCookies(t *testing.T) {
	b := baker(t, []byte("sixteen bytes 00"))
	for _, c := range []struct {
		address, tick int
		asks          [][]byte
		want          string
	}{
		{7, 70, [][]byte{[]byte("hello")}, "ffe0941e41886ec94c9f1a2f79bf4b50"},
		{7, 70, nil, "e41756b6c6f83209b70b14b102040c89"},
		{0, 0, nil, "c4dbc0ea0e7f5a797693799ad64f58b0"},
		{65535, 1 << 30, [][]byte{[]byte("hello"), nil, []byte("x")}, "66e8238889738e29d14d36ae594d07f1"},
	} {
		if got := bakes(t, b, c.address, c.tick, c.asks...); hex.EncodeToString(got[:]) != c.want {
			t.Errorf("%d at %d: %x", c.address, c.tick, got)
		}
	}
}

func TestBakeOfWrongNumbers(t *testing.T) {
	b := baker(t, some(16))
	none := func(address, tick int) {
		t.Helper()
		for _, asks := range lists()[:5] {
			if c, e := b.Bake(address, tick, asks...); e != api.ErrRange || c != ([16]byte{}) {
				t.Errorf("%d at %d: %x, %d", address, tick, c, e)
			}
		}
	}
	for _, address := range wrongAddresses() {
		for _, tick := range append(ticks(), wrongNumbers()...) {
			none(address, tick)
		}
	}
	for _, tick := range wrongNumbers() {
		for _, address := range addresses() {
			none(address, tick)
		}
	}
	counted(t, b, 0, 0)
}

// P10.1: Check.

func TestCheckOfFreshOnes(t *testing.T) {
	for _, key := range keys() {
		b := baker(t, key)
		for _, address := range addresses() {
			for _, tick := range ticks() {
				for _, asks := range lists()[:7] {
					c := rightCookie(key, uint32(tick/64), uint16(address), asks...)
					checks(t, b, api.OK, c[:], address, tick, asks...)
					checks(t, b, api.OK, c[:], address, min(tick/64*64+127, 1<<30), asks...)
				}
			}
		}
		counted(t, b, 0, 0)
	}
}

func TestCheckOfWrongNumbers(t *testing.T) {
	b := baker(t, some(16))
	c := rightCookie(some(16), 0, 7)
	for _, address := range wrongAddresses() {
		for _, tick := range append(ticks(), wrongNumbers()...) {
			checks(t, b, api.ErrRange, c[:], address, tick)
		}
	}
	for _, tick := range wrongNumbers() {
		for _, address := range addresses() {
			checks(t, b, api.ErrRange, c[:], address, tick)
		}
	}
	counted(t, b, 0, 0)
}

func TestCheckOfOtherLengths(t *testing.T) {
	b := baker(t, some(16))
	c := rightCookie(some(16), 1, 7, some(3))
	checks(t, b, api.ErrForm, nil, 7, 70, some(3))
	for n := range 100 {
		want := api.ErrForm
		if n == 16 {
			want = api.OK
		}
		checks(t, b, want, append(c[:], some(100)...)[:n], 7, 70, some(3))
	}
	counted(t, b, 0, 0)
}

// Others than the sixteen bytes: each bit of them turned, and bytes that are none.
func TestCheckOfOtherBytes(t *testing.T) {
	b := baker(t, some(16))
	c := rightCookie(some(16), 1, 7, some(3))
	for bit := range 128 {
		other := c
		other[bit/8] ^= 1 << (bit % 8)
		checks(t, b, api.ErrOld, other[:], 7, 70, some(3))
		counted(t, b, 0, bit+1)
	}
	ones := bytes.Repeat([]byte{255}, 16)
	for _, other := range [][]byte{make([]byte, 16), ones, some(16), []byte("sixteen bytes 00")} {
		checks(t, b, api.ErrOld, other, 7, 70, some(3))
	}
	counted(t, b, 0, 132)
}

func TestCheckOfOtherEpochs(t *testing.T) {
	b := baker(t, some(16))
	var stale int
	for at := range uint32(6) {
		for of := range uint32(9) {
			c := rightCookie(some(16), of, 7)
			for _, tick := range []int{int(at) * 64, int(at)*64 + 30, int(at)*64 + 63} {
				if of == at || of+1 == at {
					checks(t, b, api.OK, c[:], 7, tick)
				} else {
					checks(t, b, api.ErrOld, c[:], 7, tick)
					stale++
				}
			}
		}
	}
	counted(t, b, 0, stale)
}

// Of the first epoch none is ahead, and none is baked behind the last one.
func TestCheckAtTheEnds(t *testing.T) {
	b := baker(t, some(16))
	for _, epoch := range []uint32{math.MaxUint32, math.MaxUint32 - 1, 1 << 31} {
		c := rightCookie(some(16), epoch, 7)
		for tick := range 130 {
			checks(t, b, api.ErrOld, c[:], 7, tick)
		}
	}
	for epoch, want := range map[uint32]api.Errno{1<<24 - 2: api.ErrOld, 1<<24 - 1: api.OK, 1 << 24: api.OK, 1<<24 + 1: api.ErrOld, 0: api.ErrOld} {
		c := rightCookie(some(16), epoch, 7)
		checks(t, b, want, c[:], 7, 1<<30)
		checks(t, b, api.ErrRange, c[:], 7, 1<<30+1)
	}
	counted(t, b, 0, 393)
}

func TestCheckOfAnotherAddress(t *testing.T) {
	b := baker(t, some(16))
	stale := 0
	for _, one := range addresses() {
		c := bakes(t, b, one, 70, some(9))
		for _, two := range addresses() {
			if one == two {
				checks(t, b, api.OK, c[:], two, 70, some(9))
			} else {
				checks(t, b, api.ErrOld, c[:], two, 70, some(9))
				stale++
			}
		}
	}
	counted(t, b, len(addresses()), stale)
}

// Other parts, and the same bytes parted otherwise: each list against every other.
func TestCheckOfOtherParts(t *testing.T) {
	b := baker(t, some(16))
	for i, one := range lists() {
		c := bakes(t, b, 7, 70, one...)
		for j, two := range lists() {
			want := api.ErrOld
			if i == j {
				want = api.OK
			}
			checks(t, b, want, c[:], 7, 130, two...)
		}
	}
	n := len(lists())
	counted(t, b, n, n*(n-1))
}

func TestCheckOfPartsThatAreCutOtherwise(t *testing.T) {
	b := baker(t, some(16))
	whole := some(5)
	for i := range 6 {
		c := bakes(t, b, 7, 70, whole[:i], whole[i:])
		for j := range 6 {
			want := api.ErrOld
			if i == j {
				want = api.OK
			}
			checks(t, b, want, c[:], 7, 70, whole[:j], whole[j:])
		}
		checks(t, b, api.ErrOld, c[:], 7, 70, whole)
		checks(t, b, api.ErrOld, c[:], 7, 70, whole[:i], whole[i:], nil)
	}
}

// What asks is no part of the address, nor the address of the epoch.
func TestCheckOfPartsThatAreNumbers(t *testing.T) {
	b := baker(t, some(16))
	c := bakes(t, b, 258, 70, []byte{3})
	for _, other := range []struct {
		address, tick int
		asks          [][]byte
	}{
		{258, 70, nil}, {258, 70, [][]byte{{0, 0, 0, 1}, {1, 2}, {3}}}, {258, 70, [][]byte{{1, 2}, {3}}}, {1, 70, [][]byte{{2, 3}}}, {1, 70, [][]byte{{2}, {3}}},
		{515, 70, nil}, {513, 70, [][]byte{{3}}}, {258, 70, [][]byte{{0, 3}}},
	} {
		checks(t, b, api.ErrOld, c[:], other.address, other.tick, other.asks...)
	}
}

func TestCheckOfAnotherKey(t *testing.T) {
	for i, one := range keys() {
		for j, two := range keys() {
			c := bakes(t, baker(t, one), 7, 70, some(9))
			b := baker(t, two)
			want, stale := api.OK, 0
			if i != j {
				want, stale = api.ErrOld, 1
			}
			checks(t, b, want, c[:], 7, 70, some(9))
			counted(t, b, 0, stale)
		}
	}
}

func TestWhichErrorIsTold(t *testing.T) {
	b := baker(t, some(16))
	c := rightCookie(some(16), 1, 7)
	for i, x := range []struct {
		cookie        []byte
		address, tick int
		want          api.Errno
	}{
		{nil, -1, -1, api.ErrRange}, {nil, 65536, 70, api.ErrRange}, {c[:15], 7, 1<<30 + 1, api.ErrRange}, {append(c[:], 0), -1, 70, api.ErrRange},
		{make([]byte, 16), 65536, 70, api.ErrRange}, {make([]byte, 16), 7, -1, api.ErrRange}, {c[:], 7, -1, api.ErrRange},
		{nil, 8, 70, api.ErrForm}, {c[:15], 7, 70, api.ErrForm}, {c[:15], 7, 192, api.ErrForm}, {make([]byte, 17), 7, 1 << 30, api.ErrForm},
		{c[:], 8, 192, api.ErrOld}, {c[:], 7, 192, api.ErrOld}, {c[:], 7, 70, api.OK},
	} {
		if e := b.Check(x.cookie, x.address, x.tick); e != x.want {
			t.Errorf("%d: %d, not %d", i, e, x.want)
		}
	}
	counted(t, b, 0, 2)
}

// P10.1: Counts.

func TestCounts(t *testing.T) {
	b := baker(t, some(16))
	c := bakes(t, b, 7, 100, []byte("hello"))
	counted(t, b, 1, 0)
	bakes(t, b, 7, 100, []byte("hello")) // the same one again is another that was baked
	counted(t, b, 2, 0)
	checks(t, b, api.OK, c[:], 7, 100, []byte("hello"))
	checks(t, b, api.OK, c[:], 7, 191, []byte("hello"))
	counted(t, b, 2, 0)
	checks(t, b, api.ErrOld, c[:], 7, 192, []byte("hello"))
	counted(t, b, 2, 1)
	checks(t, b, api.ErrOld, c[:], 7, 192, []byte("hello"))
	counted(t, b, 2, 2)
	checks(t, b, api.ErrForm, c[:15], 7, 192, []byte("hello"))
	checks(t, b, api.ErrRange, c[:], -7, 192, []byte("hello"))
	b.Bake(-7, 100)
	b.Bake(7, -100)
	counted(t, b, 2, 2)
	counted(t, b, 2, 2) // they are told, not taken
	bakes(t, b, 7, 100)
	counted(t, b, 3, 2)
}

func TestCountsAreABakersOwn(t *testing.T) {
	one, two := baker(t, some(16)), baker(t, some(16))
	bakes(t, one, 7, 100)
	checks(t, two, api.ErrOld, make([]byte, 16), 7, 100)
	counted(t, one, 1, 0)
	counted(t, two, 0, 1)
}

// Nobody bakes so many in a test: the counts begin shortly ahead of their end.
func TestCountsStay(t *testing.T) {
	const most = 1<<31 - 1
	b := baker(t, some(16))
	b.baked.Store(most - 2)
	b.stale.Store(most - 1)
	for _, n := range []int{most - 1, most, most, most, most} {
		bakes(t, b, 7, 100)
		counted(t, b, n, most-1)
	}
	for range 5 {
		checks(t, b, api.ErrOld, make([]byte, 16), 7, 100)
		counted(t, b, most, most)
	}
	c := bakes(t, b, 7, 100)
	checks(t, b, api.OK, c[:], 7, 100)
	counted(t, b, most, most)
}

func TestCountsOfSeveralAtOnce(t *testing.T) {
	b := baker(t, some(16))
	var group sync.WaitGroup
	for address := range 8 {
		group.Go(func() {
			for tick := range 500 {
				c, e := b.Bake(address, tick)
				if e != api.OK || b.Check(c[:], address, tick) != api.OK || b.Check(c[:], address+1, tick) != api.ErrOld {
					t.Errorf("%d at %d: %x, %d", address, tick, c, e)
				}
			}
		})
	}
	group.Wait()
	counted(t, b, 4000, 4000)
}

// P10.2: Epoch.

func TestEpoch(t *testing.T) {
	for _, x := range []struct{ tick, want int }{
		{math.MinInt, 0}, {-1 << 30, 0}, {-65, 0}, {-64, 0}, {-63, 0}, {-1, 0}, {0, 0}, {1, 0}, {63, 0}, {64, 1}, {65, 1}, {127, 1}, {128, 2}, {191, 2}, {192, 3},
		{1<<30 - 1, 1<<24 - 1}, {1 << 30, 1 << 24}, {1<<30 + 63, 1 << 24}, {1<<30 + 64, 1<<24 + 1}, {1 << 40, 1 << 34}, {math.MaxInt, math.MaxInt / 64},
	} {
		if got := Epoch(x.tick); got != x.want {
			t.Errorf("%d: %d, not %d", x.tick, got, x.want)
		}
	}
	for epoch := range 300 {
		for tick := range 64 {
			if got := Epoch(epoch*64 + tick); got != epoch {
				t.Errorf("%d: %d, not %d", epoch*64+tick, got, epoch)
			}
		}
	}
}

// P10.2: Ends.

func TestEnds(t *testing.T) {
	for _, x := range []struct{ tick, want int }{
		{0, 128}, {1, 128}, {63, 128}, {64, 192}, {70, 192}, {100, 192}, {127, 192}, {128, 256}, {191, 256}, {192, 320},
		{1<<30 - 65, 1 << 30}, {1<<30 - 64, 1<<30 + 64}, {1<<30 - 1, 1<<30 + 64}, {1 << 30, 1<<30 + 128},
	} {
		if got := Ends(x.tick); got != x.want {
			t.Errorf("%d: %d, not %d", x.tick, got, x.want)
		}
	}
	for epoch := range 300 {
		for tick := range 64 {
			if got := Ends(epoch*64 + tick); got != epoch*64+128 {
				t.Errorf("%d: %d", epoch*64+tick, got)
			}
		}
	}
}

// A tick below 0 counts as of the first epoch.
func TestEndsOfTicksBelowNone(t *testing.T) {
	for _, tick := range []int{-1, -64, -65, math.MinInt} {
		if got := Ends(tick); got != 128 {
			t.Errorf("%d: %d", tick, got)
		}
	}
}

// P10.3: a nil baker.

func TestNilBaker(t *testing.T) {
	var b *Baker
	for _, address := range append(addresses(), wrongAddresses()...) {
		for _, tick := range append(ticks(), wrongNumbers()...) {
			for _, asks := range lists()[:5] {
				if c, e := b.Bake(address, tick, asks...); e != api.ErrState || c != ([16]byte{}) {
					t.Errorf("%d at %d: %x, %d", address, tick, c, e)
				}
				for _, n := range []int{0, 15, 16, 17} {
					checks(t, b, api.ErrState, make([]byte, n), address, tick, asks...)
				}
			}
		}
	}
	counted(t, b, 0, 0)
}

// Who never went by New has no key: anybody could tell the cookies of none.
func TestZeroBaker(t *testing.T) {
	b := &Baker{}
	for _, key := range [][]byte{nil, make([]byte, 16)} {
		c := rightCookie(key, 1, 7)
		checks(t, b, api.ErrState, c[:], 7, 70)
	}
	checks(t, b, api.ErrState, make([]byte, 16), 7, 70)
	checks(t, b, api.ErrState, nil, -1, -1)
	if c, e := b.Bake(7, 70); e != api.ErrState || c != ([16]byte{}) {
		t.Errorf("%x, %d", c, e)
	}
	counted(t, b, 0, 0)
}

// P10.3: what is handed in is neither changed nor kept.

func TestTheKeyIsNotKept(t *testing.T) {
	for _, n := range []int{16, 32, 64, 70} {
		key := append(make([]byte, 0, 128), some(n)...)
		b := baker(t, key)
		c := bakes(t, b, 7, 70, some(9))
		if !bytes.Equal(key[:128], append(some(n), make([]byte, 128-n)...)) {
			t.Errorf("%d bytes: the key is changed", n)
		}
		for i := range key {
			key[i] ^= 255
		}
		if again := bakes(t, b, 7, 70, some(9)); again != c || c != rightCookie(some(n), 1, 7, some(9)) {
			t.Errorf("%d bytes: the key is kept", n)
		}
		checks(t, b, api.OK, c[:], 7, 70, some(9))
	}
}

func TestWhatAsksIsNotChangedAndNotKept(t *testing.T) {
	room := append(some(40), bytes.Repeat([]byte{77}, 60)...)
	before := bytes.Clone(room)
	list := append(make([][]byte, 0, 9), room[:10], room[10:40])
	b := baker(t, some(16))
	for n := range 3 {
		c := bakes(t, b, 7, 70, list[:n]...)
		in := append(make([]byte, 0, 64), c[:]...)
		checks(t, b, api.OK, in, 7, 70, list[:n]...)
		checks(t, b, api.ErrOld, in, 8, 70, list[:n]...)
		if !bytes.Equal(in[:64], append(c[:], make([]byte, 48)...)) {
			t.Errorf("%d parts: the cookie is changed", n)
		}
	}
	if !bytes.Equal(room, before) || len(list[0]) != 10 || len(list[1]) != 30 {
		t.Error("bytes are changed")
	}
	if slices.ContainsFunc(list[2:9], func(b []byte) bool { return b != nil }) {
		t.Error("parts are changed")
	}
	c := bakes(t, b, 7, 70, list...)
	clear(room)
	checks(t, b, api.ErrOld, c[:], 7, 70, list...)
	checks(t, b, api.OK, c[:], 7, 70, before[:10], before[10:40])
	clear(list)
	if again := bakes(t, b, 7, 70, before[:10], before[10:40]); again != c {
		t.Error("what asked is kept")
	}
}

// Changing a cookie that was handed out, or in, changes no other one.
func TestCookiesAreNotShared(t *testing.T) {
	b := baker(t, some(16))
	c := bakes(t, b, 7, 70)
	clear(c[:])
	checks(t, b, api.ErrOld, c[:], 7, 70)
	if again := bakes(t, b, 7, 70); again != rightCookie(some(16), 1, 7) {
		t.Errorf("%x", again)
	}
}
