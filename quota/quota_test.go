package quota

import (
	"bytes"
	"math"
	"testing"

	"vigil/api"
)

const most = 1<<31 - 1

// some is so many bytes, no two neighbours of which are the same.
func some(n int) []byte {
	b := make([]byte, n)
	for i := range b {
		b[i] = byte(i*37 + i/64*11 + 5)
	}
	return b
}

// wrongLengths is numbers that are no length.
func wrongLengths() []int {
	return []int{-1, -2, -3, -32, -most, math.MinInt32, math.MinInt, math.MinInt + 1, most + 1, most + 2, 1 << 32, 1<<32 + 10, 1 << 62, math.MaxInt - 1, math.MaxInt}
}

func TestTheNumbers(t *testing.T) {
	if Factor != 3 || Ticks != 32 {
		t.Error("the constants")
	}
	q, e := New(1)
	_, f := New(0)
	_, g := Fit(0)
	h, i, j, k := q.Take(7, 64), q.Take(7, 64), q.Take(7, 5), q.Take(0, 5)
	for sender := 100; sender < 115; sender++ {
		q.Take(sender, 5)
	}
	l, m := q.Take(8, 5), (*Quotas)(nil).Take(7, 5)
	if e != 0 || f != 10 || g != 15 || h != 0 || i != 15 || j != 9 || k != 10 || l != 6 || m != 11 {
		t.Error(e, f, g, h, i, j, k, l, m)
	}
}

// P11.1: Allows.

func TestAllows(t *testing.T) {
	for _, x := range []struct {
		in, out int
		want    bool
	}{
		{0, 0, true}, {0, 1, false}, {0, 2, false}, {0, 3, false}, {1, 0, true}, {1, 1, true}, {1, 2, true}, {1, 3, true}, {1, 4, false}, {1, 5, false},
		{2, 5, true}, {2, 6, true}, {2, 7, false}, {10, 29, true}, {10, 30, true}, {10, 31, false}, {10, 32, false}, {10, 33, false},
		{1024, 3071, true}, {1024, 3072, true}, {1024, 3073, false},
		{715827882, most - 1, true}, {715827882, most, false}, {715827883, most, true}, {715827881, most - 4, true}, {715827881, most - 3, false},
		{1431655766, most, true}, {1431655766, 2, true}, // three times this one are 2 more than 2^32
		{most, 0, true}, {most, most - 1, true}, {most, most, true}, {most, most + 1, false}, {most, 3 * most, false},
		{most - 1, most, true}, {most + 1, most, false}, {most + 1, 0, false}, {-1, 0, false}, {-1, -3, false}, {0, -1, false}, {1, -1, false}, {most, -1, false},
	} {
		if got := Allows(x.in, x.out); got != x.want {
			t.Errorf("%d by %d: %t", x.in, x.out, got)
		}
	}
}

func TestAllowsOfAllSmallLengths(t *testing.T) {
	for in := range 200 {
		for out := range 700 {
			if got := Allows(in, out); got != (out <= in+in+in) {
				t.Errorf("%d by %d: %t", in, out, got)
			}
		}
	}
}

func TestAllowsOfThreeTimesAsMany(t *testing.T) {
	for in := 1; in <= most/3; in += in/7 + 1 {
		if !Allows(in, 3*in-1) || !Allows(in, 3*in) || Allows(in, 3*in+1) {
			t.Errorf("%d by some three times as many", in)
		}
	}
}

func TestAllowsOfWrongLengths(t *testing.T) {
	all := append(wrongLengths(), 0, 1, 2, 3, 10, 1024, most-1, most)
	for _, wrong := range wrongLengths() {
		for _, other := range all {
			if Allows(wrong, other) || Allows(other, wrong) {
				t.Errorf("%d and %d", wrong, other)
			}
		}
	}
}

// P11.1: Fit.

func fits(t *testing.T, in int, want []byte, replies ...[]byte) {
	t.Helper()
	if b, e := Fit(in, replies...); e != api.OK || !bytes.Equal(b, want) {
		t.Errorf("%d: %x, %d", in, b, e)
	}
}

func fitsNone(t *testing.T, in int, replies ...[]byte) {
	t.Helper()
	if b, e := Fit(in, replies...); e != api.ErrQuota || b != nil {
		t.Errorf("%d: %x, %d", in, b, e)
	}
}

func TestFitOfNoReply(t *testing.T) {
	for _, in := range append(wrongLengths(), 0, 1, 2, 1024, most) {
		fitsNone(t, in)
		fitsNone(t, in, [][]byte{}...)
	}
}

func TestFitOfOneReply(t *testing.T) {
	for in := range 20 {
		for n := range 80 {
			if n <= 3*in {
				fits(t, in, some(n), some(n))
			} else {
				fitsNone(t, in, some(n))
			}
		}
	}
	fits(t, most, some(65536), some(65536))
}

func TestFitOfSeveral(t *testing.T) {
	a, b, c := []byte("aaaaaa"), []byte("bbbbbb"), []byte("ccccccc")
	fits(t, 2, a, a)
	fits(t, 2, a, a, b)
	fits(t, 2, b, b, a)
	fits(t, 2, a, c, a, b)
	fits(t, 2, b, c, c, b, a)
	fits(t, 2, b, c, c, c, b)
	fits(t, 2, a[:1], a[:1], b) // a longer one that is allowed, too, isn't preferred
	fits(t, 2, a, a, b[:1])
	fits(t, 3, c, c, a, b)
	fitsNone(t, 2, c)
	fitsNone(t, 2, c, c, c)
	fitsNone(t, 1, a, b, c)
	fits(t, 1, b[:3], a, b[:3], c[:2])
	fits(t, 1, b[3:], a, c[:4], b[3:], c[:3])
}

func TestFitOfEmptyReplies(t *testing.T) {
	a := []byte("a")
	for _, empty := range [][]byte{nil, {}} {
		fits(t, 0, nil, empty)
		fits(t, 0, nil, a, empty)
		fits(t, 0, nil, a, a, empty, a)
		fits(t, 0, nil, empty, a)
		fits(t, 1, nil, empty, a)
		fits(t, 1, a, a, empty)
		fits(t, 1, nil, some(4), empty, a)
		fits(t, 7, nil, empty, empty)
		fits(t, most, nil, empty, a)
	}
}

func TestFitOfWrongLengths(t *testing.T) {
	for _, in := range wrongLengths() {
		fitsNone(t, in, nil)
		fitsNone(t, in, []byte{})
		fitsNone(t, in, some(1))
		fitsNone(t, in, some(300), nil, some(1), []byte{})
	}
}

// Each row of replies of these lengths, by the words of the document.
func TestFitOfAllRows(t *testing.T) {
	lengths := []int{0, 1, 3, 4, 6, 7}
	for in := -1; in < 4; in++ {
		for _, i := range lengths {
			for _, j := range lengths {
				for _, k := range lengths {
					replies := [][]byte{some(i), append([]byte(nil), some(j + 1)[1:]...), some(k + 2)[2:]}
					firstThatIsAllowed(t, in, replies)
				}
			}
		}
	}
}

func firstThatIsAllowed(t *testing.T, in int, replies [][]byte) {
	t.Helper()
	for _, reply := range replies {
		if in >= 0 && len(reply) <= 3*in {
			fits(t, in, reply, replies...)
			return
		}
	}
	fitsNone(t, in, replies...)
}

func TestRepliesAreNeitherChangedNorShared(t *testing.T) {
	room := append(some(40), bytes.Repeat([]byte{77}, 60)...)
	before := bytes.Clone(room)
	list := [][]byte{room[:10], room[10:14], room[14:40]}
	b, e := Fit(2, list...)
	if e != api.OK || !bytes.Equal(b, before[10:14]) {
		t.Fatal(b, e)
	}
	_ = append(b, 1, 2, 3)
	clear(b)
	if !bytes.Equal(room, before) || len(list[0]) != 10 || len(list[1]) != 4 || len(list[2]) != 26 {
		t.Error("replies are changed")
	}
	b, e = Fit(2, list...)
	again, f := Fit(2, list...)
	clear(room)
	if e != api.OK || f != api.OK || !bytes.Equal(b, before[10:14]) || !bytes.Equal(again, before[10:14]) {
		t.Error("a reply is kept")
	}
	clear(b)
	if !bytes.Equal(again, before[10:14]) {
		t.Error("answers are shared")
	}
}

// P11.1: Period.

func TestPeriod(t *testing.T) {
	for _, x := range []struct{ tick, want int }{
		{math.MinInt, 0}, {-1 << 30, 0}, {-65, 0}, {-64, 0}, {-33, 0}, {-32, 0}, {-31, 0}, {-1, 0}, {0, 0}, {1, 0}, {5, 0}, {31, 0}, {32, 1}, {33, 1}, {63, 1}, {64, 2}, {95, 2}, {96, 3},
		{1<<30 - 1, 1<<25 - 1}, {1 << 30, 1 << 25}, {1<<30 + 31, 1 << 25}, {1<<30 + 32, 1<<25 + 1}, {1 << 40, 1 << 35}, {math.MaxInt - 31, math.MaxInt / 32}, {math.MaxInt, math.MaxInt / 32},
	} {
		if got := Period(x.tick); got != x.want {
			t.Errorf("%d: %d, not %d", x.tick, got, x.want)
		}
	}
	for period := range 300 {
		for tick := range 32 {
			if got := Period(period*32 + tick); got != period {
				t.Errorf("%d: %d, not %d", period*32+tick, got, period)
			}
		}
	}
}
