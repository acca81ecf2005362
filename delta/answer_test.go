package delta

import (
	"bytes"
	"fmt"
	"math"
	"math/rand"
	"reflect"
	"slices"
	"testing"

	"vigil/api"
	"vigil/revoke"
	"vigil/wire"
)

// same is whether both deltas say the same.
func same(a, b revoke.Delta) bool {
	return a.From == b.From && equal(a.Logs, b.Logs)
}

// long is how many bytes a delta has, counted one by one.
func long(d revoke.Delta) int {
	n := 0
	for _, log := range d.Logs {
		n += 2 + 2
		for range log {
			n += 2
		}
	}
	return n
}

// wantAnswer is what a set of these logs has to answer: cut serial by serial.
func wantAnswer(l logs, v revoke.Versions, room int) (revoke.Delta, api.Errno) {
	for _, n := range v {
		if n < 0 || n > 256 {
			return revoke.Delta{}, api.ErrRange
		}
	}
	if room < 16 {
		return revoke.Delta{}, api.ErrLong
	}
	d := revoke.Delta{From: v, Logs: copied(l)}
	for seed, log := range l {
		d.From[seed] = min(v[seed], len(log))
		d.Logs[seed] = d.Logs[seed][d.From[seed]:]
	}
	for long(d) > room {
		last := 3
		for len(d.Logs[last]) == 0 {
			last--
		}
		d.Logs[last] = d.Logs[last][:len(d.Logs[last])-1]
	}
	return d, api.OK
}

// answers tells if Answer doesn't answer as it has to, and is what it answers.
func answers(t *testing.T, s *revoke.Set, have logs, v revoke.Versions, room int) revoke.Delta {
	t.Helper()
	want, f := wantAnswer(have, v, room)
	d, e := Answer(s, v, room)
	if e != f || !same(d, want) {
		t.Errorf("%v of %v, room %d: %v, %d, not %v, %d", v, lengths(have), room, d, e, want, f)
	}
	if e == api.OK && Size(d) > room {
		t.Errorf("%v of %v, room %d: %d bytes", v, lengths(have), room, Size(d))
	}
	return d
}

// refuses tells if Answer doesn't answer this error, and nothing beside it.
func refuses(t *testing.T, s *revoke.Set, v revoke.Versions, room int, want api.Errno) {
	t.Helper()
	if d, e := Answer(s, v, room); e != want || !reflect.DeepEqual(d, revoke.Delta{}) {
		t.Errorf("%v, room %d: %v, %d, not %d", v, room, d, e, want)
	}
}

// P9.2: Answer.

func TestAnswer(t *testing.T) {
	have := logs{{5, 9, 7}, nil, {65535}, {1, 5}}
	s := made(t, have)
	for _, c := range []struct {
		v    revoke.Versions
		want revoke.Delta
	}{
		{revoke.Versions{}, revoke.Delta{Logs: have}},
		{revoke.Versions{1, 0, 0, 1}, revoke.Delta{From: revoke.Versions{1, 0, 0, 1}, Logs: logs{{9, 7}, nil, {65535}, {5}}}},
		{revoke.Versions{3, 0, 1, 2}, revoke.Delta{From: revoke.Versions{3, 0, 1, 2}}},
		// Where the set has less, from its own version on.
		{revoke.Versions{4, 1, 0, 1}, revoke.Delta{From: revoke.Versions{3, 0, 0, 1}, Logs: logs{nil, nil, {65535}, {5}}}},
		{revoke.Versions{0, 256, 2, 3}, revoke.Delta{From: revoke.Versions{0, 0, 1, 2}, Logs: logs{{5, 9, 7}}}},
		{revoke.Versions{256, 256, 256, 256}, revoke.Delta{From: revoke.Versions{3, 0, 1, 2}}},
	} {
		for _, room := range []int{28, 29, 1024, 1 << 20, math.MaxInt - 1, math.MaxInt} {
			if d, e := Answer(s, c.v, room); e != api.OK || !same(d, c.want) {
				t.Errorf("%v, room %d: %v, %d, not %v", c.v, room, d, e, c.want)
			}
		}
	}
	has(t, s, have)
}

// Cut from the last log on, and from its end on: no more than must be.
func TestAnswerIsCut(t *testing.T) {
	s := made(t, logs{{5, 9}, {3}, nil, {1, 7}})
	for room, want := range map[int]logs{
		16: {}, 17: {}, 18: {{5}}, 19: {{5}}, 20: {{5, 9}}, 21: {{5, 9}}, 22: {{5, 9}, {3}}, 23: {{5, 9}, {3}},
		24: {{5, 9}, {3}, nil, {1}}, 25: {{5, 9}, {3}, nil, {1}}, 26: {{5, 9}, {3}, nil, {1, 7}}, 27: {{5, 9}, {3}, nil, {1, 7}},
	} {
		if d, e := Answer(s, revoke.Versions{}, room); e != api.OK || !same(d, revoke.Delta{Logs: want}) {
			t.Errorf("room %d: %v, %d, not %v", room, d, e, want)
		}
	}
	// What it begins at stays, also where nothing is left.
	v := revoke.Versions{1, 0, 9, 1}
	for room, want := range map[int]logs{16: {}, 18: {{9}}, 20: {{9}, {3}}, 22: {{9}, {3}, nil, {7}}} {
		if d, e := Answer(s, v, room); e != api.OK || !same(d, revoke.Delta{From: revoke.Versions{1, 0, 0, 1}, Logs: want}) {
			t.Errorf("room %d: %v, %d, not %v", room, d, e, want)
		}
	}
}

// In all rooms, over one log and over several.
func TestAnswerInAllRooms(t *testing.T) {
	for _, have := range some() {
		s := made(t, have)
		for _, v := range []revoke.Versions{{}, {1, 1, 1, 1}, {256, 0, 255, 0}, {256, 256, 256, 256}} {
			for room := 14; room < 60; room++ {
				answers(t, s, have, v, room)
			}
			for _, room := range []int{500, 527, 528, 529, 1023, 1024, 1025, 2061, 2062, 2063, 2064, 2065, 5000} {
				answers(t, s, have, v, room)
			}
		}
		has(t, s, have)
	}
}

// A room greater than a packet's is used, too, though revoke's Bytes has none of it.
func TestAnswerOfMoreThanAPacket(t *testing.T) {
	have := logs{row(1, 256), row(2, 256), row(3, 256), row(4, 256)}
	d := answers(t, made(t, have), have, revoke.Versions{}, 5000)
	if !same(d, revoke.Delta{Logs: have}) || Size(d) != 2064 {
		t.Error(Size(d))
	}
	d = answers(t, made(t, have), have, revoke.Versions{}, api.MaxPacket)
	if b, e := revoke.Bytes(d); e != api.OK || len(b) != api.MaxPacket {
		t.Error(len(b), e)
	}
}

func TestAnswerOfEachVersion(t *testing.T) {
	have := logs{{5, 9, 7}, nil, row(1, 255), row(1, 256)}
	s := made(t, have)
	for _, seed := range seeds {
		for n := range 257 {
			v := revoke.Versions{}
			v[seed] = n
			answers(t, s, have, v, 2000)
			answers(t, s, have, v, 300)
		}
	}
}

func TestAnswerOfWrongVersions(t *testing.T) {
	for _, have := range some() {
		s := made(t, have)
		for _, seed := range seeds {
			for _, n := range noVersions {
				for _, v := range []revoke.Versions{{}, s.Versions(), {256, 256, 256, 256}} {
					v[seed] = n
					refuses(t, s, v, 1024, api.ErrRange)
				}
			}
		}
		has(t, s, have)
	}
}

func TestAnswerOfTooLittleRoom(t *testing.T) {
	for _, have := range some() {
		s := made(t, have)
		for _, room := range []int{15, 14, 2, 1, 0, -1, -16, -1024, math.MinInt, math.MinInt + 15} {
			for _, v := range []revoke.Versions{{}, s.Versions(), {256, 256, 256, 256}} {
				refuses(t, s, v, room, api.ErrLong)
			}
		}
	}
}

func TestAnswerOfANilSet(t *testing.T) {
	for _, room := range []int{15, 16, 1024, math.MinInt, math.MaxInt} {
		for _, v := range []revoke.Versions{{}, {1}, {-1}, {257}, {256, 256, 256, 256}} {
			refuses(t, nil, v, room, api.ErrState)
		}
	}
}

// That there is no set, then that the versions are wrong, then that there is no room.
func TestWhichErrorAnswerTells(t *testing.T) {
	s := made(t, logs{{5}})
	refuses(t, nil, revoke.Versions{257}, 15, api.ErrState)
	refuses(t, nil, revoke.Versions{}, 15, api.ErrState)
	refuses(t, nil, revoke.Versions{-1}, 16, api.ErrState)
	for _, seed := range seeds {
		for _, n := range noVersions {
			v := revoke.Versions{}
			v[seed] = n
			refuses(t, s, v, 15, api.ErrRange)
			refuses(t, s, v, math.MinInt, api.ErrRange)
		}
	}
	refuses(t, s, revoke.Versions{256, 256, 256, 256}, 15, api.ErrLong)
}

func TestAnswerOfTheZeroSet(t *testing.T) {
	for _, v := range []revoke.Versions{{}, {1, 2, 3, 4}, {256, 256, 256, 256}} {
		for _, room := range []int{16, 1024} {
			if d, e := Answer(&revoke.Set{}, v, room); e != api.OK || !same(d, revoke.Delta{}) {
				t.Error(v, room, d, e)
			}
		}
	}
}

// P9.2: Merge.

// merges tells if Merge doesn't answer so, or if the set hasn't these logs then.
func merges(t *testing.T, have logs, l []revoke.Delta, n int, each []api.Errno, want logs) {
	t.Helper()
	s := made(t, have)
	if got, e := Merge(s, l...); got != n || !slices.Equal(e, each) {
		t.Errorf("%v to %v: %d, %v, not %d, %v", l, have, got, e, n, each)
	}
	has(t, s, want)
}

func TestMerge(t *testing.T) {
	have := logs{{5, 9}, nil, {5}, nil}
	one := revoke.Delta{From: revoke.Versions{2}, Logs: logs{{7}, {1}}}
	two := revoke.Delta{From: revoke.Versions{2, 1}, Logs: logs{{7, 8}, {2, 3}, nil, {5}}}
	old := revoke.Delta{From: revoke.Versions{3}, Logs: logs{{8}}}
	form := revoke.Delta{Logs: logs{{5, 8, 7, 6}, {1}}}
	wide := revoke.Delta{From: revoke.Versions{257}}
	full := revoke.Delta{From: revoke.Versions{2: 1}, Logs: logs{2: row(100, 256)}}
	merges(t, have, nil, 0, nil, have)
	merges(t, have, []revoke.Delta{}, 0, nil, have)
	merges(t, have, []revoke.Delta{{}}, 0, []api.Errno{0}, have)
	merges(t, have, []revoke.Delta{one}, 2, []api.Errno{0}, logs{{5, 9, 7}, {1}, {5}, nil})
	merges(t, have, []revoke.Delta{one, one, one}, 2, []api.Errno{0, 0, 0}, logs{{5, 9, 7}, {1}, {5}, nil})
	merges(t, have, []revoke.Delta{one, two}, 6, []api.Errno{0, 0}, logs{{5, 9, 7, 8}, {1, 2, 3}, {5}, {5}})
	merges(t, have, []revoke.Delta{two}, 0, []api.Errno{api.ErrOld}, have)
	// One behind the other: what is told ahead of it makes room for one.
	merges(t, have, []revoke.Delta{two, one, two}, 6, []api.Errno{api.ErrOld, 0, 0}, logs{{5, 9, 7, 8}, {1, 2, 3}, {5}, {5}})
	merges(t, have, []revoke.Delta{old, one, old}, 3, []api.Errno{api.ErrOld, 0, 0}, logs{{5, 9, 7, 8}, {1}, {5}, nil})
	// Refused ones among right ones.
	merges(t, have, []revoke.Delta{wide}, 0, []api.Errno{api.ErrRange}, have)
	merges(t, have, []revoke.Delta{wide, old, form, full}, 0, []api.Errno{api.ErrRange, api.ErrOld, api.ErrForm, api.ErrFull}, have)
	merges(t, have, []revoke.Delta{form, one, wide, full, two, form}, 6,
		[]api.Errno{api.ErrForm, 0, api.ErrRange, api.ErrFull, 0, api.ErrForm}, logs{{5, 9, 7, 8}, {1, 2, 3}, {5}, {5}})
	// What another seed's log has already counts, too, and what both have doesn't.
	merges(t, have, []revoke.Delta{{Logs: logs{{5, 9}, {5, 9}, {5, 9}}}, {Logs: logs{{5}, {5}, {5}, {5}}}}, 4, []api.Errno{0, 0}, logs{{5, 9}, {5, 9}, {5, 9}, {5}})
}

func TestMergeIntoANilSet(t *testing.T) {
	for n := range 5 {
		l := make([]revoke.Delta, n)
		for i := range l {
			l[i].Logs[i] = []int{7}
		}
		if got, each := Merge(nil, l...); got != 0 || !slices.Equal(each, slices.Repeat([]api.Errno{api.ErrState}, n)) {
			t.Error(n, got, each)
		}
	}
}

// Together it is as if they were applied one by one.
func TestMergeIsToApplyEach(t *testing.T) {
	draws := rand.New(rand.NewSource(92))
	refused, taken := 0, 0
	for range 500 {
		of := histories(draws)
		have := beginnings(draws, of, 4)
		var l []revoke.Delta
		for range draws.Intn(7) {
			other := beginnings(draws, of, 8)
			if draws.Intn(4) == 0 {
				other = beginnings(draws, histories(draws), 8)
			}
			d := revoke.Delta{Logs: other}
			for seed := range d.From {
				d.From[seed] = draws.Intn(len(other[seed]) + 1)
				d.Logs[seed] = other[seed][d.From[seed]:]
			}
			l = append(l, d)
		}
		s, n, each := made(t, have), 0, []api.Errno{}
		for _, d := range l {
			k, e := s.Apply(d)
			n, each = n+k, append(each, e)
			if e == api.OK {
				taken++
			} else {
				refused++
			}
		}
		merges(t, have, l, n, each, logsOf(s))
	}
	if refused < 100 || taken < 100 {
		t.Error(refused, taken)
	}
}

// P9.3: what follows.

// histories is four rows of serials, of which logs are beginnings.
func histories(draws *rand.Rand) logs {
	var out logs
	for seed := range out {
		for _, n := range draws.Perm(400)[:256] {
			out[seed] = append(out[seed], 1+n*163)
		}
	}
	return out
}

// beginnings is the first ones of each log.
func beginnings(draws *rand.Rand, of logs, most int) logs {
	for seed := range of {
		of[seed] = slices.Clone(of[seed][:draws.Intn(most+1)])
	}
	return of
}

// longest is of each the longer log.
func longest(a, b logs) logs {
	for seed := range a {
		if len(b[seed]) > len(a[seed]) {
			a[seed] = b[seed]
		}
	}
	return a
}

// exchange is that the one is told the other's digest, asks, and is answered within
// room; false, if it didn't ask. All of it goes by way of bytes.
func exchange(t *testing.T, asking, other *revoke.Set, room int) bool {
	t.Helper()
	b, e := Bytes(Of(other))
	d, f := Read(wire.New(b))
	if e != api.OK || f != api.OK || d != Of(other) {
		t.Fatal(e, f)
	}
	before, told := logsOf(asking), logsOf(other)
	v, ask := Ask(asking, d)
	if ask == revoke.Covers(asking.Versions(), other.Versions()) {
		t.Error("it asks:", ask, asking.Versions(), other.Versions())
	}
	answer, e := Answer(other, v, room)
	if e != api.OK || Size(answer) > room {
		t.Error(e, Size(answer))
	}
	b, e = revoke.Bytes(answer)
	answer, f = revoke.Parse(b)
	if e != api.OK || f != api.OK || len(b) > room {
		t.Error(e, f, len(b))
	}
	if !ask {
		return false
	}
	n, each := Merge(asking, answer)
	if !slices.Equal(each, []api.Errno{api.OK}) || n != (Size(answer)-Long)/2 {
		t.Errorf("%v: %d, %v", answer, n, each)
	}
	for seed, log := range logsOf(asking) {
		if len(log) < len(before[seed]) || !slices.Equal(log, longest(before, told)[seed][:len(log)]) {
			t.Errorf("%v was %v, and is %v", seed, before[seed], log)
		}
	}
	has(t, other, told)
	return true
}

// With room enough, the one that asked lacks nothing of the other then.
func TestWhatIsAnsweredIsApplied(t *testing.T) {
	draws := rand.New(rand.NewSource(93))
	for range 500 {
		of := histories(draws)
		most := []int{1, 3, 20, 126}[draws.Intn(4)]
		one, two := beginnings(draws, of, most), beginnings(draws, of, most)
		s, o := made(t, one), made(t, two)
		exchange(t, s, o, api.MaxPacket)
		has(t, s, longest(one, two))
		if !revoke.Covers(s.Versions(), o.Versions()) {
			t.Error(s.Versions(), o.Versions())
		}
		exchange(t, o, s, api.MaxPacket)
		has(t, o, longest(one, two))
		if !Alike(s, Of(o)) || !Alike(o, Of(s)) || exchange(t, s, o, 16) || exchange(t, o, s, 16) {
			t.Error("they aren't alike")
		}
	}
}

// With less room it goes on, exchange by exchange, till nothing is asked for.
func TestWhatIsAnsweredBitByBit(t *testing.T) {
	draws := rand.New(rand.NewSource(94))
	for range 100 {
		of := histories(draws)
		most := []int{3, 20, 256}[draws.Intn(3)]
		one, two := beginnings(draws, of, most), beginnings(draws, of, most)
		s, o := made(t, one), made(t, two)
		room := 18 + draws.Intn(283)
		each := (room - 16) / 2
		lacks := 0
		for seed := range two {
			lacks += max(0, len(two[seed])-len(one[seed]))
		}
		want, exchanges := (lacks+each-1)/each, 0
		for exchanges <= want && exchange(t, s, o, room) {
			exchanges++
		}
		if exchanges != want {
			t.Errorf("%d exchanges, not %d", exchanges, want)
		}
		has(t, s, longest(one, two))
	}
}

// With room for none it is applied, too, and nothing is new.
func TestWhatIsAnsweredWithRoomForNone(t *testing.T) {
	draws := rand.New(rand.NewSource(95))
	for range 100 {
		of := histories(draws)
		one := beginnings(draws, of, 5)
		s, o := made(t, one), made(t, beginnings(draws, of, 5))
		exchange(t, s, o, 16+draws.Intn(2))
		has(t, s, one)
	}
}

// What is answered to zeros, as to one that asks for all, is applied, too.
func TestWhatIsAnsweredToZeros(t *testing.T) {
	draws := rand.New(rand.NewSource(96))
	for range 300 {
		of := histories(draws)
		one, two := beginnings(draws, of, 20), beginnings(draws, of, 20)
		s := made(t, one)
		d := answers(t, made(t, two), two, revoke.Versions{}, 16+draws.Intn(300))
		if _, each := Merge(s, d); !slices.Equal(each, []api.Errno{api.OK}) {
			t.Error(each)
		}
	}
}

func TestManyAnswers(t *testing.T) {
	draws := rand.New(rand.NewSource(97))
	for range 2000 {
		have := beginnings(draws, histories(draws), []int{1, 4, 30, 256}[draws.Intn(4)])
		v := revoke.Versions{}
		for seed := range v {
			v[seed] = draws.Intn([]int{2, 6, 40, 259}[draws.Intn(4)]) - draws.Intn(50)/49
		}
		answers(t, made(t, have), have, v, draws.Intn([]int{18, 60, 1100}[draws.Intn(3)]))
	}
}

// P9.3: what is handed in or handed out is neither kept, nor changed, nor shared.

// scribble changes a list, and what there is behind it.
func scribble(l []int) {
	l = l[:cap(l)]
	for i := range l {
		l[i] = l[i]*7 + 4
	}
}

func TestWhatIsAnsweredIsNotShared(t *testing.T) {
	have := logs{{5, 9, 2}, {1, 8}, nil, row(1, 256)}
	for _, room := range []int{16, 18, 22, 24, 26, 28, 300, 2000} {
		for _, v := range []revoke.Versions{{}, {1, 1, 1, 1}, {3, 2, 0, 256}} {
			s := made(t, have)
			d, again := answers(t, s, have, v, room), answers(t, s, have, v, room)
			for seed := range d.Logs {
				scribble(d.Logs[seed])
				_ = append(d.Logs[seed], 77, 78)
			}
			has(t, s, have)
			if want, _ := wantAnswer(have, v, room); !same(again, want) {
				t.Error("two answers share")
			}
			s.Revoke(0, 4)
			s.Revoke(1, 4)
			if want, _ := wantAnswer(have, v, room); !same(again, want) {
				t.Error("what was handed out is changed")
			}
		}
	}
}

// What was cut off is gone: there is nothing behind what is left.
func TestWhatIsCutIsNotHandedOut(t *testing.T) {
	s := made(t, logs{{5, 9, 2}, {1, 8}, nil, row(1, 100)})
	for room := 16; room < 240; room++ {
		d, e := Answer(s, revoke.Versions{}, room)
		if e != api.OK {
			t.Error(room, e)
		}
		for seed, log := range d.Logs {
			if cap(log) != len(log) {
				t.Errorf("room %d, log %d: %v", room, seed, log[:cap(log)])
			}
		}
	}
}

func TestWhatIsMergedIsNotChangedAndNotKept(t *testing.T) {
	build := func() []revoke.Delta {
		return []revoke.Delta{
			{Logs: logs{append(make([]int, 0, 9), 5, 9), append(make([]int, 0, 9), 7, 8, 6), nil, {}}},
			{From: revoke.Versions{300}, Logs: logs{append(make([]int, 0, 9), 1)}},
			{From: revoke.Versions{2, 1}, Logs: logs{append(make([]int, 0, 9), 4), append(make([]int, 0, 9), 8)}},
		}
	}
	l := build()
	s := revoke.New()
	n, each := Merge(s, l...)
	if n != 6 || !slices.Equal(each, []api.Errno{0, api.ErrRange, 0}) || !reflect.DeepEqual(l, build()) {
		t.Error(n, each, l)
	}
	s.Revoke(0, 1)
	s.Revoke(1, 1)
	for i := range l {
		for _, log := range l[i].Logs {
			if slices.ContainsFunc(log[len(log):cap(log)], func(n int) bool { return n != 0 }) {
				t.Error("behind the list it is changed")
			}
			scribble(log)
		}
		l[i] = revoke.Delta{}
	}
	has(t, s, logs{{5, 9, 4, 1}, {7, 8, 6, 1}, nil, nil})
	clear(each)
	if _, again := Merge(s, revoke.Delta{From: revoke.Versions{-1}}); again[0] != api.ErrRange {
		t.Error(again)
	}
}

func TestSizeChangesNothing(t *testing.T) {
	d := revoke.Delta{From: revoke.Versions{1, 2, 3, 4}, Logs: logs{append(make([]int, 0, 9), 5, 9), {7}, nil, {}}}
	before := revoke.Delta{From: d.From, Logs: copied(d.Logs)}
	if Size(d) != 22 || !same(d, before) {
		t.Error(d)
	}
}

// P1 and P2, for all calls.

// numbers is a row of numbers of these bytes, small ones, great ones and wrong ones.
func numbers(b []byte) []int {
	var out []int
	for i, x := range b {
		switch {
		case x < 200:
			out = append(out, int(x))
		case x < 210:
			out = append(out, 65530+int(x-200))
		case x < 220:
			out = append(out, 250+int(x-210))
		default:
			out = append(out, []int{0, -1, math.MinInt, math.MaxInt, 1 << 32}[i%5])
		}
	}
	return out
}

// versions is four numbers of these bytes.
func versions(b []byte) revoke.Versions {
	var v revoke.Versions
	copy(v[:], numbers(b))
	return v
}

// story is what all calls answer, one behind the other.
func story(first, second []byte, seed, room int) string {
	d := revoke.Delta{From: versions(second), Logs: logs{numbers(first), nil, numbers(second), numbers(first)}}
	digest := Digest{Versions: versions(first)}
	copy(digest.Print[:], second)
	r := wire.New(first)
	var out []any
	for _, s := range []*revoke.Set{revoke.New(), nil, {}} {
		out = append(out, s.Revoke(seed, numbers(first)...), s.Revoke(0, numbers(second)...), Of(s), Alike(s, Of(s)), Alike(s, digest))
		v, ask := Ask(s, digest)
		out = append(out, v, ask)
		for _, v := range []revoke.Versions{v, versions(first), versions(second), s.Versions()} {
			given, e := Answer(s, v, room)
			n, each := Merge(s, given, d, revoke.Delta{Logs: d.Logs})
			out = append(out, given, e, Size(given), n, each)
		}
		b, e := Bytes(Of(s))
		out = append(out, b, e)
	}
	b, e := Bytes(digest)
	x, f := Read(r)
	y, g := Read(r)
	z, h := Read(nil)
	return fmt.Sprint(append(out, b, e, x, f, y, g, z, h, r.Left(), Size(d))...)
}

func FuzzDelta(f *testing.F) {
	f.Add([]byte{5, 9}, []byte{7, 7}, 0, 18)
	f.Add([]byte{5, 9, 205}, []byte{7, 201, 3}, 3, 1024)
	f.Add(make([]byte, 16), []byte{255}, -1, 16)
	f.Add(make([]byte, 33), []byte{210, 215, 216, 217}, 2, 15)
	f.Add([]byte{1, 0, 1, 0, 1, 0, 1, 0, 1, 2, 3, 4, 5, 6, 7, 8}, []byte{}, 4, math.MinInt)
	f.Add([]byte{1, 2, 3, 4, 5}, []byte{1, 2, 3, 4}, 1, math.MaxInt)
	f.Fuzz(func(t *testing.T, first, second []byte, seed, room int) {
		one := story(first, second, seed, room)
		if one != story(first, second, seed, room) {
			t.Error("the same calls answer otherwise")
		}
		if d, e := Read(wire.New(first)); e == api.OK {
			if b, e := Bytes(d); e != api.OK || !bytes.Equal(b, first[:Long]) {
				t.Errorf("%x: %x, %d", first, b, e)
			}
		}
		s := revoke.New()
		s.Revoke(seed, numbers(first)...)
		s.Revoke(0, numbers(second)...)
		answers(t, s, logsOf(s), versions(second), room)
	})
}
