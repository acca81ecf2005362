package window

import (
	"bytes"
	"encoding/binary"
	"math"
	"testing"

	"vigil/api"
	"vigil/wire"
)

// The greatest boot and counter, as the document has them.
const (
	topBoot    = 65535
	topCounter = 2147483647
)

// rightBoots is those at the ends of their limits, and some within them.
func rightBoots() []int {
	return []int{1, 2, 7, 255, 256, 258, 32767, 32768, topBoot - 1, topBoot}
}

func wrongBoots() []int {
	return []int{0, -1, -7, -topBoot, topBoot + 1, topBoot + 2, topBoot + 8, 1 << 30, 1<<32 + 7, math.MinInt, math.MinInt + 7, math.MaxInt}
}

func rightCounters() []int {
	return []int{1, 2, 63, 64, 65, 255, 256, 65535, 65536, 0x01020304, 1 << 30, topCounter - 64, topCounter - 1, topCounter}
}

func wrongCounters() []int {
	return []int{0, -1, -63, -64, -topCounter, topCounter + 1, topCounter + 2, 1<<32 - 1, 1 << 32, 1<<32 + 7, math.MinInt, math.MinInt + 7, math.MaxInt}
}

// crossed is a nonce of each of the boots with each of the counters.
func crossed(boots, counters []int) []Nonce {
	var l []Nonce
	for _, boot := range boots {
		for _, counter := range counters {
			l = append(l, Nonce{boot, counter})
		}
	}
	return l
}

func rightNonces() []Nonce {
	return crossed(rightBoots(), rightCounters())
}

// noNonces is what has a wrong boot, or a wrong counter, or both.
func noNonces() []Nonce {
	l := crossed(wrongBoots(), rightCounters())
	l = append(l, crossed(rightBoots(), wrongCounters())...)
	return append(l, crossed(wrongBoots(), wrongCounters())...)
}

// asBytes is the boot's two and the counter's four, by the library's own means.
func asBytes(boot, counter int) []byte {
	b := binary.BigEndian.AppendUint16(nil, uint16(boot))
	return binary.BigEndian.AppendUint32(b, uint32(counter))
}

// P12.1: Check and Bytes.

func TestRightNonces(t *testing.T) {
	for _, n := range rightNonces() {
		if e := Check(n); e != api.OK {
			t.Errorf("%v: %d", n, e)
		}
		b, e := Bytes(n)
		if e != api.OK || !bytes.Equal(b, asBytes(n.Boot, n.Counter)) {
			t.Errorf("%v: %x, %d", n, b, e)
		}
	}
}

func TestNoNonces(t *testing.T) {
	for _, n := range append(noNonces(), Nonce{}) {
		if e := Check(n); e != api.ErrRange {
			t.Errorf("%v: %d", n, e)
		}
		if b, e := Bytes(n); e != api.ErrRange || b != nil {
			t.Errorf("%v: %x, %d", n, b, e)
		}
	}
}

func TestNoncesAtEachLimit(t *testing.T) {
	for _, c := range []struct {
		boot, counter int
		want          api.Errno
		b             string
	}{
		{-1, 1, 10, ""}, {0, 1, 10, ""}, {1, 1, 0, "\x00\x01\x00\x00\x00\x01"}, {65535, 1, 0, "\xff\xff\x00\x00\x00\x01"}, {65536, 1, 10, ""},
		{1, -1, 10, ""}, {1, 0, 10, ""}, {1, 2147483647, 0, "\x00\x01\x7f\xff\xff\xff"}, {1, 2147483648, 10, ""},
		{258, 16909060, 0, "\x01\x02\x01\x02\x03\x04"}, {0, 0, 10, ""}, {65536, 2147483648, 10, ""}, {-1, -1, 10, ""},
	} {
		n := Nonce{c.boot, c.counter}
		if e := Check(n); e != c.want {
			t.Errorf("%v: %d, not %d", n, e, c.want)
		}
		if b, e := Bytes(n); e != c.want || string(b) != c.b {
			t.Errorf("%v: %x, %d", n, b, e)
		}
	}
}

func TestBytesAreNotShared(t *testing.T) {
	n := Nonce{7, 9}
	one, _ := Bytes(n)
	two, _ := Bytes(n)
	clear(one)
	_ = append(one[:3], 1, 2, 3)
	if !bytes.Equal(two, asBytes(7, 9)) {
		t.Errorf("%x", two)
	}
}

// P12.1: Read.

// reads fails unless these are what Read answers, and how many bytes are left behind it.
func reads(t *testing.T, r *wire.Reader, want Nonce, e api.Errno, left int) {
	t.Helper()
	if n, err := Read(r); n != want || err != e {
		t.Errorf("%v, %d, not %v, %d", n, err, want, e)
	}
	if r.Left() != left {
		t.Errorf("%d left, not %d", r.Left(), left)
	}
}

func TestReadOfBytes(t *testing.T) {
	for _, n := range rightNonces() {
		b, _ := Bytes(n)
		reads(t, wire.New(b), n, api.OK, 0)
		reads(t, wire.New(append(b, 1, 2, 3)), n, api.OK, 3)
	}
}

func TestReadOfARow(t *testing.T) {
	l := rightNonces()
	var all []byte
	for _, n := range l {
		b, _ := Bytes(n)
		all = append(all, b...)
	}
	r := wire.New(all)
	for i, n := range l {
		reads(t, r, n, api.OK, len(all)-6*(i+1))
	}
	if e := r.End(); e != api.OK {
		t.Error(e)
	}
	reads(t, r, Nonce{}, api.ErrEnd, 0)
}

// Where bytes are missing, that is told, whatever the others are.
func TestReadOfFewerBytes(t *testing.T) {
	for _, n := range append(rightNonces(), Nonce{0, 1}, Nonce{1, 0}, Nonce{}, Nonce{topBoot, 1<<32 - 1}) {
		for length := range 6 {
			r := wire.New(asBytes(n.Boot, n.Counter)[:length])
			reads(t, r, Nonce{}, api.ErrEnd, 0)
			reads(t, r, Nonce{}, api.ErrEnd, 0)
			if r.Err() != api.ErrEnd {
				t.Errorf("%v, %d bytes: %d", n, length, r.Err())
			}
		}
	}
}

func TestReadOfNoNonce(t *testing.T) {
	l := crossed([]int{0}, append(rightCounters(), 0, topCounter+1, 1<<32-1))
	l = append(l, crossed(rightBoots(), []int{0, topCounter + 1, topCounter + 2, 3 << 30, 1<<32 - 1})...)
	for _, n := range l {
		for _, behind := range []int{0, 1, 6} {
			b := append(asBytes(n.Boot, n.Counter), make([]byte, behind)...)
			if got, e := Read(wire.New(b)); got != (Nonce{}) || e != api.ErrForm {
				t.Errorf("%v, %d bytes behind it: %v, %d", n, behind, got, e)
			}
		}
	}
}

func TestReadOfAReaderWithAnError(t *testing.T) {
	right := asBytes(7, 9)
	long := wire.New(make([]byte, 1025))
	size := wire.New(right)
	size.Get(9)
	kind := wire.New(right)
	kind.Number(wire.Some)
	end := wire.New(right)
	end.Number(wire.Eight)
	form := wire.New(append([]byte{0, 2, 1, 1}, right...))
	form.Bytes(1)
	for _, c := range []struct {
		r    *wire.Reader
		want api.Errno
	}{{long, api.ErrLong}, {size, api.ErrKind}, {kind, api.ErrKind}, {end, api.ErrEnd}, {form, api.ErrForm}, {nil, api.ErrState}} {
		for range 2 {
			reads(t, c.r, Nonce{}, c.want, 0)
		}
	}
	reads(t, new(wire.Reader), Nonce{}, api.ErrEnd, 0)
}

// P12.1: Less.

func TestLess(t *testing.T) {
	for _, c := range []struct {
		a, b       Nonce
		less, more bool
	}{
		{Nonce{}, Nonce{}, false, false}, {Nonce{7, 9}, Nonce{7, 9}, false, false}, {Nonce{topBoot, topCounter}, Nonce{topBoot, topCounter}, false, false},
		{Nonce{7, 9}, Nonce{8, 9}, true, false}, {Nonce{1, topCounter}, Nonce{2, 1}, true, false}, {Nonce{255, 9}, Nonce{256, 9}, true, false},
		{Nonce{7, 9}, Nonce{7, 10}, true, false}, {Nonce{7, 1}, Nonce{7, topCounter}, true, false}, {Nonce{9, 255}, Nonce{9, 256}, true, false},
		{Nonce{9, 7}, Nonce{7, 9}, false, true}, {Nonce{9, 9}, Nonce{7, 7}, false, true}, {Nonce{}, Nonce{1, 1}, true, false},
	} {
		if Less(c.a, c.b) != c.less || Less(c.b, c.a) != c.more {
			t.Errorf("%v, %v: %t, %t", c.a, c.b, Less(c.a, c.b), Less(c.b, c.a))
		}
	}
}

// Nonces are as their bytes are.
func TestLessIsThatOfBytes(t *testing.T) {
	l := rightNonces()
	for _, a := range l {
		for _, b := range l {
			one, _ := Bytes(a)
			two, _ := Bytes(b)
			if Less(a, b) != (bytes.Compare(one, two) < 0) {
				t.Errorf("%v, %v: %t", a, b, Less(a, b))
			}
		}
	}
}

// What is no nonce has its place, too.
func TestLessOfNoNonces(t *testing.T) {
	numbers := []int{math.MinInt, -topCounter, -1, 0, 1, topBoot, topCounter, 1 << 32, math.MaxInt} // rising
	l := crossed(numbers, numbers)
	for i, a := range l {
		for k, b := range l {
			if Less(a, b) != (i < k) {
				t.Errorf("%v, %v: %t", a, b, Less(a, b))
			}
		}
	}
}

// P12.1: Start, Next and Boot.

func starts(t *testing.T, boot int) *Counter {
	t.Helper()
	c, e := Start(boot)
	if c == nil || e != api.OK {
		t.Fatalf("%d: %v, %d", boot, c, e)
	}
	return c
}

func tells(t *testing.T, c *Counter, want Nonce, e api.Errno) {
	t.Helper()
	if n, err := c.Next(); n != want || err != e {
		t.Errorf("%v, %d, not %v, %d", n, err, want, e)
	}
}

func TestStart(t *testing.T) {
	for boot := -300; boot < 66000; boot++ {
		c, e := Start(boot)
		switch {
		case boot < 1 || boot > 65535:
			if c != nil || e != api.ErrRange {
				t.Errorf("%d: %v, %d", boot, c, e)
			}
		case c == nil || e != api.OK || c.Boot() != boot:
			t.Errorf("%d: %v, %d", boot, c, e)
		default:
			tells(t, c, Nonce{boot, 1}, api.OK)
		}
	}
	for _, boot := range wrongBoots() {
		if c, e := Start(boot); c != nil || e != api.ErrRange {
			t.Errorf("%d: %v, %d", boot, c, e)
		}
	}
}

func TestNextIsOneMoreEachTime(t *testing.T) {
	for _, boot := range rightBoots() {
		c := starts(t, boot)
		for i := range 70000 {
			tells(t, c, Nonce{boot, i + 1}, api.OK)
		}
		if c.Boot() != boot {
			t.Errorf("%d: %d", boot, c.Boot())
		}
	}
}

func TestCountersOfTheirOwn(t *testing.T) {
	one, two, other := starts(t, 7), starts(t, 7), starts(t, 8)
	for i := range 10 {
		tells(t, one, Nonce{7, 2*i + 1}, api.OK)
		tells(t, one, Nonce{7, 2*i + 2}, api.OK)
		tells(t, two, Nonce{7, i + 1}, api.OK)
	}
	tells(t, other, Nonce{8, 1}, api.OK)
	tells(t, two, Nonce{7, 11}, api.OK)
}

// Each of them, up to the greatest: there is no other way to get there.
func TestNextUpToTheGreatest(t *testing.T) {
	c := starts(t, topBoot)
	for i := 1; i <= topCounter; i++ {
		if n, e := c.Next(); n != (Nonce{topBoot, i}) || e != api.OK {
			t.Fatalf("%d: %v, %d", i, n, e)
		}
	}
	for range 5 {
		tells(t, c, Nonce{}, api.ErrFull)
		if c.Boot() != topBoot {
			t.Error(c.Boot())
		}
	}
}

// P12.3: nil counters.

func TestNilCounter(t *testing.T) {
	var c *Counter
	for range 3 {
		tells(t, c, Nonce{}, api.ErrState)
		if c.Boot() != 0 {
			t.Error(c.Boot())
		}
	}
}

// Who never went by Start was told no boot.
func TestZeroCounter(t *testing.T) {
	c := &Counter{}
	for range 3 {
		tells(t, c, Nonce{}, api.ErrState)
		if c.Boot() != 0 {
			t.Error(c.Boot())
		}
	}
}

// P12.3: what a counter tells rises.

func TestToldNoncesRise(t *testing.T) {
	last := Nonce{}
	for _, boot := range rightBoots() {
		c := starts(t, boot)
		for range 300 {
			n, e := c.Next()
			if e != api.OK || Check(n) != api.OK || !Less(last, n) || Less(n, last) {
				t.Errorf("%v behind %v: %d", n, last, e)
			}
			last = n
		}
	}
}
