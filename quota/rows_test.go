package quota

import (
	"math"
	"math/rand"
	"slices"
	"testing"

	"vigil/api"
)

// P11.3: in no period is a sender taken too often, and nobody is put out.

// The example: of 1 a period, taken at 5, not at 31, taken at 32.
func TestTheExample(t *testing.T) {
	q := quotas(t, 1)
	takes(t, q, api.OK, 7, 5)
	takes(t, q, api.ErrQuota, 7, 31)
	takes(t, q, api.OK, 7, 32)
}

// taken is that a sender was taken in a period.
type taken struct{ sender, period int }

// told is all that quotas were told: in a list, which nothing but a drop takes from.
type told struct {
	times int
	row   []taken
}

func (o *told) senders() []int {
	var l []int
	for _, x := range o.row {
		l = append(l, x.sender)
	}
	slices.Sort(l)
	return slices.Compact(l)
}

// late is whether the sender was taken in a later period, and n how often in this one.
func (o *told) asked(sender, period int) (late bool, n int) {
	for _, x := range o.row {
		if x.sender == sender {
			late = late || x.period > period
		}
		if x == (taken{sender, period}) {
			n++
		}
	}
	return late, n
}

func (o *told) take(sender, tick int) api.Errno {
	if sender < 1 || sender > 65535 || tick < 0 {
		return api.ErrRange
	}
	late, n := o.asked(sender, tick>>5)
	known := o.senders()
	switch {
	case late:
		return api.ErrOld
	case n == o.times:
		return api.ErrQuota
	case !slices.Contains(known, sender) && len(known) == 16:
		return api.ErrFull
	}
	o.row = append(o.row, taken{sender, tick >> 5})
	return api.OK
}

func (o *told) left(sender, tick int) int {
	if sender < 1 || sender > 65535 || tick < 0 {
		return 0
	}
	late, n := o.asked(sender, tick>>5)
	if late {
		return 0
	}
	return o.times - n
}

func (o *told) drop(l ...int) int {
	before := len(o.senders())
	o.row = slices.DeleteFunc(o.row, func(x taken) bool { return slices.Contains(l, x.sender) })
	return before - len(o.senders())
}

// Rows of calls by a fixed row of draws, so that each run has the same ones: of more
// senders than there is room for, at ticks that go on, and go back at times.
func TestLongRows(t *testing.T) {
	for seed, times := range []int{1, 2, 3, 5, 20, 255} {
		draws := rand.New(rand.NewSource(int64(seed + 11)))
		q, o := quotas(t, times), &told{times: times}
		seen := map[api.Errno]int{}
		for i := range 4000 {
			sender, tick := draws.Intn(23), max(-1, i/20+draws.Intn(50)-25)
			if draws.Intn(12) == 0 {
				l := []int{draws.Intn(23), sender, draws.Intn(40), sender}
				drops(t, q, o.drop(l...), l...)
			}
			leaves(t, q, o.left(sender, tick), sender, tick)
			want := o.take(sender, tick)
			seen[want]++
			takes(t, q, want, sender, tick)
			leaves(t, q, o.left(sender, tick), sender, tick)
			knows(t, q, o.senders()...)
		}
		if times < 4 && (seen[api.OK] < 100 || seen[api.ErrRange] < 10 || seen[api.ErrOld] < 10 || seen[api.ErrQuota] < 10 || seen[api.ErrFull] < 10) {
			t.Errorf("%d times: a row that tells little: %v", times, seen)
		}
	}
}

// Without a drop, whatever is tried, the first sixteen stay, and in each period each of
// them is taken as often as they let, and no more.
func TestNobodyIsTakenTooOften(t *testing.T) {
	for _, times := range []int{1, 2, 7} {
		q := quotas(t, times)
		draws := rand.New(rand.NewSource(int64(times)))
		n := map[taken]int{}
		var first []int
		for tick := range 320 {
			for range 40 * times {
				sender, at := draws.Intn(40)+1, max(0, tick-draws.Intn(70))
				if q.Take(sender, at) != api.OK {
					continue
				}
				n[taken{sender, at / 32}]++
				if !slices.Contains(first, sender) {
					first = append(first, sender)
				}
			}
		}
		slices.Sort(first)
		if len(first) != 16 {
			t.Errorf("%d times: %d were taken", times, len(first))
		}
		knows(t, q, first...)
		for x, often := range n {
			if often > times {
				t.Errorf("%v: %d times, not %d", x, often, times)
			}
		}
		for _, sender := range first {
			if often := n[taken{sender, 9}]; often != times {
				t.Errorf("%d: %d times, not %d", sender, often, times)
			}
		}
	}
}

// What one sender is let doesn't hang on what others try.
func TestNobodyIsPutOut(t *testing.T) {
	alone, among := quotas(t, 3), quotas(t, 3)
	draws := rand.New(rand.NewSource(5))
	takes(t, alone, api.OK, 7, 0)
	takes(t, among, api.OK, 7, 0)
	for tick := range 2000 {
		for range 20 {
			among.Take(draws.Intn(60)+8, draws.Intn(2000))
		}
		at := max(0, tick-draws.Intn(40))
		if e, f := alone.Take(7, at), among.Take(7, at); e != f {
			t.Errorf("at %d: %d, not %d", at, f, e)
		}
	}
	if l := among.Senders(); len(l) != 16 || l[0] != 7 {
		t.Error(l)
	}
}

// P11.3: nil quotas.

func TestNilQuotas(t *testing.T) {
	var q *Quotas
	for _, sender := range append(wrongSenders(), rightSenders()...) {
		for _, tick := range append(wrongTicks(), rightTicks()...) {
			takes(t, q, api.ErrState, sender, tick)
			leaves(t, q, 0, sender, tick)
		}
	}
	drops(t, q, 0)
	drops(t, q, 0, 7, 7, 0, 65535)
	if l := q.Senders(); l != nil || q.Times() != 0 {
		t.Error(l, q.Times())
	}
}

// Who never went by New was told no times.
func TestZeroQuotas(t *testing.T) {
	q := &Quotas{}
	for _, sender := range append(wrongSenders(), rightSenders()...) {
		for _, tick := range append(wrongTicks(), rightTicks()...) {
			takes(t, q, api.ErrState, sender, tick)
			leaves(t, q, 0, sender, tick)
		}
	}
	drops(t, q, 0, 7, 7, 0, 65535)
	knows(t, q)
	if q.Times() != 0 {
		t.Error(q.Times())
	}
}

// P1 and P2: every call ends, none panics, and the same calls answer the same.

func story(q *Quotas, sender, tick int, reply []byte) []any {
	e := q.Take(sender, tick)
	f := q.Take(sender+1, tick)
	g := q.Take(sender, tick-40)
	n, m := q.Left(sender, tick), q.Left(sender+1, tick+40)
	l := q.Senders()
	out := []any{e, f, g, n, m, q.Times(), len(l), Period(tick), Allows(sender, tick)}
	for _, known := range l {
		out = append(out, known)
	}
	if len(l) > 14 {
		out = append(out, q.Drop(l[0], l[3], l[0], sender))
	}
	b, e := Fit(tick, some(9), reply, nil)
	return append(out, string(b), e)
}

func TestTheSameCallsAnswerTheSame(t *testing.T) {
	numbers := []int{math.MinInt, -1, 0, 1, 2, 31, 32, 63, 64, 65534, 65535, 65536, 1 << 30, most, most + 1, math.MaxInt - 40, math.MaxInt}
	for _, times := range []int{-1, 0, 1, 2, 255, 256} {
		one, e := New(times)
		two, f := New(times)
		for _, sender := range append(numbers, row(100, 130)...) {
			for _, tick := range numbers {
				for _, n := range []int{0, 3, 200} {
					if e != f || !slices.Equal(story(one, sender, tick, some(n)), story(two, sender, tick, some(n))) {
						t.Errorf("of %d, %d at %d", times, sender, tick)
					}
				}
			}
		}
	}
}

func FuzzQuota(f *testing.F) {
	f.Add(2, []byte{7, 3, 7, 31, 7, 4, 8, 4, 7, 40}, 7, 64, 10, 30)
	f.Add(0, []byte{}, 0, -1, -1, 0)
	f.Add(255, some(200), 65536, 1<<30, most, most)
	f.Fuzz(func(t *testing.T, times int, calls []byte, sender, tick, in, out int) {
		q, e := New(times)
		if good := times > 0 && times < 256; good != (e == api.OK) || good != (q != nil) || !good && e != api.ErrRange {
			t.Fatalf("%d: %v, %d", times, q, e)
		}
		if right := in >= 0 && in <= most && out >= 0 && out <= most && (out+2)/3 <= in; Allows(in, out) != right {
			t.Errorf("%d by %d: not %t", in, out, right)
		}
		firstThatIsAllowed(t, max(-1, min(in, most)), [][]byte{calls, calls[:len(calls)/2], {1}})
		if q == nil {
			takes(t, q, api.ErrState, sender, tick)
			return
		}
		o := &told{times: times}
		for calls = calls[:min(len(calls), 600)]; len(calls) > 1; calls = calls[2:] {
			who, at := int(calls[0]%32), int(calls[1])
			if calls[0] > 240 {
				drops(t, q, o.drop(who, at, who), who, at, who)
				continue
			}
			takes(t, q, o.take(who, at), who, at)
			leaves(t, q, o.left(who, at+16), who, at+16)
		}
		leaves(t, q, o.left(sender, tick), sender, tick)
		takes(t, q, o.take(sender, tick), sender, tick)
		knows(t, q, o.senders()...)
	})
}

func BenchmarkTake(b *testing.B) {
	q, _ := New(2)
	for i := 0; b.Loop(); i++ {
		q.Take(i%20+1, i)
	}
}
