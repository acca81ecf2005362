package quota

import (
	"math"
	"slices"
	"testing"

	"vigil/api"
)

// wrongSenders is numbers that are nobody's.
func wrongSenders() []int {
	return []int{0, -1, -7, -65535, -65536, 65536, 65537, 65536 + 7, 1 << 30, 1<<32 + 7, math.MaxInt, math.MinInt, math.MinInt + 7}
}

// rightSenders is those at the ends of their limits, and some within them.
func rightSenders() []int {
	return []int{1, 2, 7, 255, 256, 258, 32768, 65534, 65535}
}

func wrongTicks() []int {
	return []int{-1, -5, -31, -32, -33, -64, -1 << 30, math.MinInt, math.MinInt + 1}
}

// rightTicks is the first and the last ones of some periods, rising.
func rightTicks() []int {
	return []int{0, 1, 31, 32, 63, 64, 1<<30 - 1, 1 << 30, 1<<30 + 1, 1<<30 + 32, 1 << 40, math.MaxInt - 31, math.MaxInt}
}

func quotas(t *testing.T, times int) *Quotas {
	t.Helper()
	q, e := New(times)
	if q == nil || e != api.OK {
		t.Fatalf("%d: %v, %d", times, q, e)
	}
	return q
}

func takes(t *testing.T, q *Quotas, want api.Errno, sender, tick int) {
	t.Helper()
	if e := q.Take(sender, tick); e != want {
		t.Errorf("%d at %d: %d, not %d", sender, tick, e, want)
	}
}

func leaves(t *testing.T, q *Quotas, want, sender, tick int) {
	t.Helper()
	if n := q.Left(sender, tick); n != want {
		t.Errorf("%d at %d: %d left, not %d", sender, tick, n, want)
	}
}

func drops(t *testing.T, q *Quotas, want int, l ...int) {
	t.Helper()
	if n := q.Drop(l...); n != want {
		t.Errorf("%v: %d, not %d", l, n, want)
	}
}

func knows(t *testing.T, q *Quotas, want ...int) {
	t.Helper()
	if l := q.Senders(); !slices.Equal(l, want) {
		t.Errorf("%v, not %v", l, want)
	}
}

// full is quotas that know 16 senders, 101 to 116, each taken once at the tick.
func full(t *testing.T, times, tick int) *Quotas {
	t.Helper()
	q := quotas(t, times)
	for sender := 101; sender <= 116; sender++ {
		takes(t, q, api.OK, sender, tick)
	}
	return q
}

// row is the numbers from one to another one.
func row(from, to int) []int {
	var l []int
	for i := from; i <= to; i++ {
		l = append(l, i)
	}
	return l
}

// P11.2: New and Times.

func TestNew(t *testing.T) {
	for times := -300; times < 600; times++ {
		q, e := New(times)
		switch {
		case times < 1 || times > 255:
			if q != nil || e != api.ErrRange {
				t.Errorf("%d: %v, %d", times, q, e)
			}
		case q == nil || e != api.OK:
			t.Errorf("%d: %v, %d", times, q, e)
		default:
			knows(t, q)
			if q.Times() != times {
				t.Errorf("%d: %d", times, q.Times())
			}
		}
	}
	for _, times := range []int{math.MinInt, -1 << 32, 1<<8 + 1, 1<<32 + 1, math.MaxInt} {
		if q, e := New(times); q != nil || e != api.ErrRange {
			t.Errorf("%d: %v, %d", times, q, e)
		}
	}
}

func TestTimesStay(t *testing.T) {
	q := quotas(t, 2)
	for range 3 {
		q.Take(7, 5)
		q.Drop(8)
		if q.Times() != 2 {
			t.Error(q.Times())
		}
	}
}

// P11.2: Take.

func TestTakeOfAllSenders(t *testing.T) {
	for _, sender := range rightSenders() {
		q := quotas(t, 1)
		takes(t, q, api.OK, sender, 5)
		knows(t, q, sender)
		takes(t, q, api.ErrQuota, sender, 5)
		takes(t, q, api.OK, sender, 37)
		knows(t, q, sender)
	}
}

func TestTakeOfWrongNumbers(t *testing.T) {
	q := quotas(t, 2)
	takes(t, q, api.OK, 7, 40)
	for _, sender := range append(wrongSenders(), rightSenders()...) {
		for _, tick := range wrongTicks() {
			takes(t, q, api.ErrRange, sender, tick)
			leaves(t, q, 0, sender, tick)
		}
	}
	for _, sender := range wrongSenders() {
		for _, tick := range rightTicks() {
			takes(t, q, api.ErrRange, sender, tick)
			leaves(t, q, 0, sender, tick)
		}
	}
	knows(t, q, 7)
	leaves(t, q, 1, 7, 40)
}

func TestTakeAtAllTicks(t *testing.T) {
	one := quotas(t, 1)
	last := -1
	for _, tick := range rightTicks() {
		want := api.OK
		if tick/32 == last {
			want = api.ErrQuota
		}
		last = tick / 32
		takes(t, one, want, 7, tick)
		takes(t, one, api.ErrQuota, 7, tick)
		takes(t, quotas(t, 1), api.OK, 7, tick)
	}
}

// As often as they let, and once more, by every number of times; then in the next period
// as often again.
func TestTakeAsOftenAsTheyLet(t *testing.T) {
	for times := 1; times <= 255; times++ {
		q := quotas(t, times)
		for period := range 3 {
			for n := range times {
				leaves(t, q, times-n, 7, period*32)
				takes(t, q, api.OK, 7, period*32+n%32)
			}
			for _, tick := range []int{0, 1, 30, 31} {
				leaves(t, q, 0, 7, period*32+tick)
				takes(t, q, api.ErrQuota, 7, period*32+tick)
			}
		}
		knows(t, q, 7)
	}
}

// Within a period an earlier tick is as good as a later one.
func TestTakeWithinAPeriod(t *testing.T) {
	q := quotas(t, 4)
	for _, tick := range []int{63, 32, 50, 33} {
		takes(t, q, api.OK, 7, tick)
	}
	takes(t, q, api.ErrQuota, 7, 63)
	takes(t, q, api.ErrQuota, 7, 32)
	takes(t, q, api.ErrOld, 7, 31)
	takes(t, q, api.OK, 7, 64)
}

func TestTakeInAnEarlierPeriod(t *testing.T) {
	q := quotas(t, 3)
	takes(t, q, api.OK, 7, 0)
	takes(t, q, api.OK, 7, 70)
	for _, tick := range []int{0, 1, 31, 32, 63} {
		takes(t, q, api.ErrOld, 7, tick)
		leaves(t, q, 0, 7, tick)
	}
	leaves(t, q, 2, 7, 64)
	takes(t, q, api.OK, 7, 64)
	takes(t, q, api.OK, 7, 95)
	takes(t, q, api.ErrQuota, 7, 95)
	takes(t, q, api.ErrOld, 7, 63)
	takes(t, q, api.OK, 7, 96)
	takes(t, q, api.ErrOld, 7, 95)
	takes(t, q, api.OK, 7, math.MaxInt)
	takes(t, q, api.ErrOld, 7, math.MaxInt-32)
	takes(t, q, api.OK, 7, math.MaxInt-31)
}

// Whether a period is earlier is asked of each sender alone.
func TestSendersDoNotHang(t *testing.T) {
	q := quotas(t, 1)
	takes(t, q, api.OK, 7, 1<<30)
	takes(t, q, api.OK, 8, 0)
	takes(t, q, api.OK, 9, 32)
	takes(t, q, api.ErrOld, 7, 0)
	takes(t, q, api.ErrQuota, 8, 31)
	takes(t, q, api.ErrOld, 9, 31)
	takes(t, q, api.OK, 8, 32)
	takes(t, q, api.ErrQuota, 9, 32)
	takes(t, q, api.OK, 10, 31)
	knows(t, q, 7, 8, 9, 10)
}

// One that is refused isn't taken: nothing of it is kept.
func TestARefusalKeepsNothing(t *testing.T) {
	q := quotas(t, 2)
	takes(t, q, api.OK, 7, 40)
	for range 5 {
		takes(t, q, api.ErrOld, 7, 31)
		takes(t, q, api.ErrRange, 7, -1)
		takes(t, q, api.ErrRange, 0, 200)
		leaves(t, q, 2, 7, 64)
	}
	leaves(t, q, 1, 7, 40)
	takes(t, q, api.OK, 7, 40)
	for range 5 {
		takes(t, q, api.ErrQuota, 7, 40)
		leaves(t, q, 0, 7, 40)
		leaves(t, q, 2, 7, 64)
	}
	takes(t, q, api.OK, 7, 64)
	leaves(t, q, 1, 7, 64)
	knows(t, q, 7)
}

func TestTakeOfASeventeenth(t *testing.T) {
	for _, tick := range []int{0, 31, 64, 1 << 30} {
		q := full(t, 2, tick)
		for _, other := range []int{tick, 0, tick + 32, tick + 3200} {
			for _, sender := range []int{1, 100, 117, 65535} {
				takes(t, q, api.ErrFull, sender, other)
				leaves(t, q, 2, sender, other)
			}
		}
		knows(t, q, row(101, 116)...)
		for _, sender := range row(101, 116) { // who is known is taken still
			leaves(t, q, 1, sender, tick)
			takes(t, q, api.OK, sender, tick)
			takes(t, q, api.ErrQuota, sender, tick)
			takes(t, q, api.OK, sender, tick+32)
		}
		takes(t, q, api.ErrFull, 117, tick+3200)
		drops(t, q, 1, 108)
		takes(t, q, api.OK, 117, tick)
		takes(t, q, api.ErrFull, 108, tick)
		knows(t, q, append(row(101, 107), row(109, 117)...)...)
	}
}

// Who isn't known was never taken, in whatever period: of those that are full it is
// told that they are, and of those that aren't it is taken, however early.
func TestTakeOfOneThatWasDropped(t *testing.T) {
	q := quotas(t, 1)
	takes(t, q, api.OK, 7, 100)
	takes(t, q, api.ErrQuota, 7, 100)
	takes(t, q, api.ErrOld, 7, 10)
	drops(t, q, 1, 7)
	knows(t, q)
	leaves(t, q, 1, 7, 100)
	leaves(t, q, 1, 7, 10)
	takes(t, q, api.OK, 7, 10)
	takes(t, q, api.ErrQuota, 7, 10)
	takes(t, q, api.OK, 7, 100)
	takes(t, q, api.ErrQuota, 7, 100)
	knows(t, q, 7)
}

func TestWhichErrorIsTold(t *testing.T) {
	q := full(t, 1, 70)
	for i, x := range []struct {
		sender, tick int
		want         api.Errno
	}{
		{0, -1, api.ErrRange}, {65536, 70, api.ErrRange}, {-1, 0, api.ErrRange}, {65536, -1, api.ErrRange}, {101, -1, api.ErrRange}, {7, -1, api.ErrRange},
		{101, 0, api.ErrOld}, {116, 63, api.ErrOld}, {101, 64, api.ErrQuota}, {116, 95, api.ErrQuota}, {7, 0, api.ErrFull}, {7, 70, api.ErrFull}, {7, 96, api.ErrFull}, {101, 96, api.OK},
		{101, 70, api.ErrOld}, {101, 127, api.ErrQuota},
	} {
		if e := q.Take(x.sender, x.tick); e != x.want {
			t.Errorf("%d: %d, not %d", i, e, x.want)
		}
	}
}

// P11.2: Left.

func TestLeft(t *testing.T) {
	q := quotas(t, 3)
	for _, sender := range rightSenders() {
		for _, tick := range rightTicks() {
			leaves(t, q, 3, sender, tick)
		}
	}
	knows(t, q) // who is asked for isn't known by it
	takes(t, q, api.OK, 7, 40)
	for _, x := range []struct{ sender, tick, want int }{
		{7, 0, 0}, {7, 31, 0}, {7, 32, 2}, {7, 40, 2}, {7, 63, 2}, {7, 64, 3}, {7, 1 << 30, 3}, {7, math.MaxInt, 3},
		{8, 0, 3}, {8, 40, 3}, {8, 64, 3}, {0, 40, 0}, {65536, 40, 0}, {7, -1, 0}, {8, -1, 0}, {-7, -40, 0}, {7, math.MinInt, 0},
	} {
		leaves(t, q, x.want, x.sender, x.tick)
		leaves(t, q, x.want, x.sender, x.tick)
	}
	takes(t, q, api.OK, 7, 41)
	leaves(t, q, 1, 7, 40)
	takes(t, q, api.OK, 7, 42)
	leaves(t, q, 0, 7, 40)
	leaves(t, q, 0, 7, 63)
	leaves(t, q, 3, 7, 64)
	takes(t, q, api.OK, 7, 90)
	leaves(t, q, 0, 7, 63)
	leaves(t, q, 2, 7, 64)
	knows(t, q, 7)
}

// Left is how often Take takes then, if there is room.
func TestLeftIsHowOften(t *testing.T) {
	for times := 1; times < 6; times++ {
		for before := range times + 1 {
			for _, tick := range []int{0, 31, 32, 40, 63, 64, 100} {
				q := quotas(t, times)
				for range before {
					takes(t, q, api.OK, 7, 40)
				}
				left, n := q.Left(7, tick), 0
				for n < 300 && q.Take(7, tick) == api.OK {
					n++
				}
				if n != left {
					t.Errorf("%d of %d, at %d: %d, not %d", before, times, tick, n, left)
				}
			}
		}
	}
}

// P11.2: Drop.

func TestDrop(t *testing.T) {
	q := quotas(t, 2)
	drops(t, q, 0)
	drops(t, q, 0, 7)
	for _, sender := range []int{9, 7, 65535, 1, 8} {
		takes(t, q, api.OK, sender, 40)
	}
	drops(t, q, 0)
	drops(t, q, 0, []int{}...)
	drops(t, q, 0, 2, 6, 10, 65534)
	drops(t, q, 0, wrongSenders()...)
	knows(t, q, 1, 7, 8, 9, 65535)
	drops(t, q, 1, 7)
	knows(t, q, 1, 8, 9, 65535)
	drops(t, q, 0, 7)
	drops(t, q, 1, 8, 8)
	drops(t, q, 0, 8, 8)
	drops(t, q, 2, 65535, 7, 1, 65535, 0, 1)
	knows(t, q, 9)
	leaves(t, q, 1, 9, 40)
	drops(t, q, 1, append(wrongSenders(), 9, 9, 9)...)
	knows(t, q)
	drops(t, q, 0, 1, 7, 8, 9, 65535)
}

func TestDropOfAll(t *testing.T) {
	q := full(t, 1, 40)
	drops(t, q, 16, append(row(90, 130), row(90, 130)...)...)
	knows(t, q)
	for _, sender := range row(201, 216) {
		takes(t, q, api.OK, sender, 0)
	}
	takes(t, q, api.ErrFull, 101, 40)
	knows(t, q, row(201, 216)...)
}

func TestWhoIsDroppedIsNotChanged(t *testing.T) {
	q := full(t, 1, 40)
	l := append(make([]int, 0, 8), 116, 3, 116, 101)
	drops(t, q, 2, l...)
	if !slices.Equal(l[:8], []int{116, 3, 116, 101, 0, 0, 0, 0}) {
		t.Error(l[:8])
	}
	clear(l)
	knows(t, q, row(102, 115)...)
}

// P11.2: Senders.

func TestSendersRise(t *testing.T) {
	q := quotas(t, 255)
	var want []int
	for i := range 16 {
		sender := (i*7919+40000)%65535 + 1
		want = append(want, sender)
		takes(t, q, api.OK, sender, 1600-i*100)
		slices.Sort(want)
		knows(t, q, want...)
		takes(t, q, api.OK, want[0], 5000) // once more, by which nobody else is known
		knows(t, q, want...)
	}
}

func TestSendersAreNotShared(t *testing.T) {
	q := full(t, 1, 40)
	one, two := q.Senders(), q.Senders()
	clear(one)
	_ = append(one[:3], 9, 9, 9)
	if !slices.Equal(two, row(101, 116)) {
		t.Error("answers are shared:", two)
	}
	knows(t, q, row(101, 116)...)
	takes(t, q, api.ErrQuota, 101, 40)
	takes(t, q, api.ErrFull, 9, 40)
	drops(t, q, 16, two...)
	clear(two)
	knows(t, q)
}

func TestQuotasOfTheirOwn(t *testing.T) {
	one, two := quotas(t, 1), quotas(t, 1)
	takes(t, one, api.OK, 7, 40)
	takes(t, two, api.OK, 7, 0)
	takes(t, two, api.OK, 8, 0)
	drops(t, two, 1, 7)
	knows(t, one, 7)
	knows(t, two, 8)
	takes(t, one, api.ErrQuota, 7, 40)
}
