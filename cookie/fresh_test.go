package cookie

import (
	"math"
	"math/rand"
	"slices"
	"testing"

	"vigil/api"
)

// P10.3: a cookie is fresh for as long as Ends tells.

// lasts goes through the ticks from that at which the cookie is baked till behind its
// end, with another baker of the same key, which never heard of it.
func lasts(t *testing.T, baking, checking *Baker, address, tick int, asks ...[]byte) {
	t.Helper()
	c := bakes(t, baking, address, tick, asks...)
	end := Ends(tick)
	for at := tick; at < end+200; at++ {
		want := api.OK
		switch {
		case at > api.MaxTicks:
			want = api.ErrRange
		case at >= end:
			want = api.ErrOld
		}
		if e := checking.Check(c[:], address, at, asks...); e != want {
			t.Fatalf("%d, baked at %d, at %d: %d, not %d", address, tick, at, e, want)
		}
	}
}

func TestACookieLasts(t *testing.T) {
	one, two := baker(t, some(16)), baker(t, some(16))
	for _, tick := range ticks() {
		for _, address := range addresses() {
			lasts(t, one, one, address, tick, some(9))
			lasts(t, one, two, address, tick, some(9))
		}
		for _, asks := range lists()[:7] {
			lasts(t, two, one, 7, tick, asks...)
		}
	}
}

func TestACookieOfEachTickLasts(t *testing.T) {
	one, two := baker(t, some(32)), baker(t, some(32))
	for tick := range 200 {
		lasts(t, one, two, 258, tick, some(3))
		lasts(t, two, one, 258, api.MaxTicks-tick, some(3))
	}
}

// The example: baked at 70, fresh at 191, not at 192.
func TestTheExample(t *testing.T) {
	b := baker(t, []byte("0123456789abcdef"))
	c := bakes(t, b, 7, 70, []byte("hello"))
	checks(t, b, api.OK, c[:], 7, 70, []byte("hello"))
	checks(t, b, api.OK, c[:], 7, 191, []byte("hello"))
	checks(t, b, api.ErrOld, c[:], 7, 192, []byte("hello"))
}

// asking is who asks, and when.
type asking struct {
	address, tick int
	asks          string
}

// chance is who asks by a fixed row of draws, so that each run has the same ones. They
// are of few addresses, ticks and parts, so that many are alike in some of these.
func chance(draws *rand.Rand) asking {
	return asking{draws.Intn(3) * 256, draws.Intn(400), []string{"", "a", "ab"}[draws.Intn(3)]}
}

// Who checks is told that a cookie is fresh if and only if it is that of the address and
// of what asked, and its end isn't there.
func TestWhoseACookieIs(t *testing.T) {
	draws := rand.New(rand.NewSource(10))
	one, two := baker(t, some(16)), baker(t, some(16))
	stale := 0
	for range 20000 {
		x, y := chance(draws), chance(draws)
		c := bakes(t, one, x.address, x.tick, []byte(x.asks))
		fresh := x.address == y.address && x.asks == y.asks && y.tick < Ends(x.tick) && y.tick/64 >= x.tick/64
		want := api.OK
		if !fresh {
			want = api.ErrOld
			stale++
		}
		if e := two.Check(c[:], y.address, y.tick, []byte(y.asks)); e != want {
			t.Errorf("%v, %v: %d, not %d", x, y, e, want)
		}
	}
	counted(t, one, 20000, 0)
	counted(t, two, 0, stale)
	if stale == 0 || stale == 20000 {
		t.Error("all are alike:", stale)
	}
}

// Of who asked nothing is kept: a baker answers the same, whatever it was asked ahead.
func TestNothingIsKeptOfWhoAsked(t *testing.T) {
	draws := rand.New(rand.NewSource(11))
	busy := baker(t, some(16))
	for range 5000 {
		x := chance(draws)
		c := bakes(t, busy, x.address, x.tick, []byte(x.asks))
		busy.Check(c[:], x.address, draws.Intn(600), []byte(x.asks))
	}
	for range 500 {
		x, at := chance(draws), draws.Intn(600)
		idle := baker(t, some(16))
		c, d := bakes(t, busy, x.address, x.tick, []byte(x.asks)), bakes(t, idle, x.address, x.tick, []byte(x.asks))
		if c != d || busy.Check(c[:], x.address, at, []byte(x.asks)) != idle.Check(c[:], x.address, at, []byte(x.asks)) {
			t.Error(x, at)
		}
	}
}

// A cookie may be shown more than once, as nothing is kept of it.
func TestACookieTwice(t *testing.T) {
	b := baker(t, some(16))
	c := bakes(t, b, 7, 70)
	for range 3 {
		checks(t, b, api.OK, c[:], 7, 191)
		checks(t, b, api.ErrOld, c[:], 7, 192)
		checks(t, b, api.OK, c[:], 7, 70)
	}
	counted(t, b, 1, 3)
}

// P1 and P2: every call ends, none panics, and the same calls answer the same.

func story(b *Baker, cookie []byte, address, tick int, asks ...[]byte) []any {
	c, e := b.Bake(address, tick, asks...)
	f := b.Check(cookie, address, tick, asks...)
	g := b.Check(c[:], address, tick, asks...)
	h := b.Check(c[:], address, Ends(tick), asks...)
	baked, stale := b.Counts()
	return []any{c, e, f, g, h, baked, stale, Epoch(tick), Ends(tick)}
}

func TestTheSameCallsAnswerTheSame(t *testing.T) {
	numbers := []int{math.MinInt, -1, 0, 1, 63, 64, 65535, 65536, 1 << 30, 1<<30 + 1, math.MaxInt - 128, math.MaxInt}
	for _, n := range []int{0, 15, 16, 70} {
		one, e := New(some(n))
		two, f := New(some(n))
		for _, address := range numbers {
			for _, tick := range numbers {
				for i, asks := range lists()[:7] {
					for _, cookie := range [][]byte{nil, some(15), some(16), some(17)} {
						if e != f || !slices.Equal(story(one, cookie, address, tick, asks...), story(two, cookie, address, tick, asks...)) {
							t.Errorf("key of %d, %d at %d, %d, %x", n, address, tick, i, cookie)
						}
					}
				}
			}
		}
	}
}

func FuzzCookie(f *testing.F) {
	f.Add(some(16), some(16), 7, 70, 121, []byte("hello"), 3)
	f.Add(some(15), some(15), -1, 1<<30, 1, []byte{}, 0)
	f.Add(some(70), some(17), 65536, 1<<30+1, -71, some(9), 9)
	f.Fuzz(func(t *testing.T, key, other []byte, address, tick, later int, text []byte, at int) {
		at = int(uint(at) % uint(len(text)+1))
		b, e := New(key)
		if (e == api.OK) != (len(key) >= 16) || (b == nil) != (e != api.OK) {
			t.Fatalf("%d bytes: %v, %d", len(key), b, e)
		}
		c, e := b.Bake(address, tick, text[:at], text[at:])
		switch want := rightError(b, address, tick); {
		case e != want:
			t.Fatalf("%d at %d: %d, not %d", address, tick, e, want)
		case e != api.OK && c != ([16]byte{}):
			t.Errorf("%x, %d", c, e)
		case e == api.OK && c != rightCookie(key, uint32(tick/64), uint16(address), text[:at], text[at:]):
			t.Errorf("%d at %d: %x", address, tick, c)
		}
		if want := rightCheck(b, address, tick, later); e == api.OK && b.Check(c[:], address, later, text[:at], text[at:]) != want {
			t.Errorf("%d at %d, baked at %d: not %d", address, later, tick, want)
		}
		if want := rightError(b, address, tick); want == api.OK && len(other) != 16 && b.Check(other, address, tick, text) != api.ErrForm {
			t.Errorf("%x at %d: no cookie", other, tick)
		} else if want != api.OK && b.Check(other, address, tick, text) != want {
			t.Errorf("%x at %d: not %d", other, tick, want)
		}
		if Epoch(tick) < 0 || tick >= 0 && Epoch(tick) != tick>>6 {
			t.Errorf("%d: %d", tick, Epoch(tick))
		}
	})
}

// rightError is what is told of an address and a tick.
func rightError(b *Baker, address, tick int) api.Errno {
	if b == nil {
		return api.ErrState
	}
	if address < 0 || address > 65535 || tick < 0 || tick > 1<<30 {
		return api.ErrRange
	}
	return api.OK
}

// rightCheck is what is told of a cookie that was baked at a tick for the same address
// and parts.
func rightCheck(b *Baker, address, tick, at int) api.Errno {
	if e := rightError(b, address, at); e != api.OK {
		return e
	}
	if ahead := at/64 - tick/64; ahead != 0 && ahead != 1 {
		return api.ErrOld
	}
	return api.OK
}

func BenchmarkBakeAndCheck(b *testing.B) {
	x, _ := New(some(32))
	for b.Loop() {
		c, _ := x.Bake(7, 70, some(9))
		x.Check(c[:], 7, 130, some(9))
	}
}
