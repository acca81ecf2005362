package revoke

import (
	"bytes"
	"encoding/binary"
	"encoding/hex"
	"fmt"
	"math"
	"math/rand"
	"reflect"
	"slices"
	"testing"

	"vigil/api"
)

// same is whether both deltas say the same.
func same(a, b Delta) bool {
	return a.From == b.From && slices.EqualFunc(a.Logs[:], b.Logs[:], slices.Equal[[]int])
}

// wantApply is what Apply has to answer to a set of these logs, and the logs it has
// then: each error is looked for in all logs, ahead of the next one.
func wantApply(l logs, d Delta) (logs, int, api.Errno) {
	for seed := range l {
		if d.From[seed] < 0 || d.From[seed] > 256 {
			return l, 0, api.ErrRange
		}
		for _, serial := range d.Logs[seed] {
			if serial < 1 || serial > 65535 {
				return l, 0, api.ErrRange
			}
		}
	}
	for seed := range l {
		if d.From[seed] > len(l[seed]) {
			return l, 0, api.ErrOld
		}
	}
	after, n := copied(l), 0
	for seed := range l {
		for i, serial := range d.Logs[seed] {
			switch at := d.From[seed] + i; {
			case at >= len(after[seed]) && slices.Contains(after[seed], serial):
				return l, 0, api.ErrForm
			case at >= len(after[seed]):
				after[seed] = append(after[seed], serial)
				n++
			case after[seed][at] != serial:
				return l, 0, api.ErrForm
			}
		}
	}
	for _, log := range after {
		if len(log) > 256 {
			return l, 0, api.ErrFull
		}
	}
	return after, n, api.OK
}

// applies tells if Apply doesn't answer as it has to, and is the logs of the set then.
func applies(t *testing.T, s *Set, have logs, d Delta) logs {
	t.Helper()
	after, n, want := wantApply(have, d)
	if got, e := s.Apply(d); got != n || e != want {
		t.Errorf("%v to %v: %d, %d, not %d, %d", d, have, got, e, n, want)
	}
	is(t, s, after)
	return after
}

// applied tells if Apply doesn't answer so, or if the set isn't of these logs then.
func applied(t *testing.T, have logs, d Delta, n int, e api.Errno, want logs) {
	t.Helper()
	s := made(t, have)
	if got, f := s.Apply(d); got != n || f != e {
		t.Errorf("%v to %v: %d, %d, not %d, %d", d, have, got, f, n, e)
	}
	is(t, s, want)
}

// refused tells if Apply doesn't answer this error, or if it changes the set.
func refused(t *testing.T, have logs, d Delta, e api.Errno) {
	t.Helper()
	applied(t, have, d, 0, e, have)
}

// P8.2: Since.

func TestSince(t *testing.T) {
	have := logs{{5, 9, 7}, nil, {65535}, {1, 5}}
	s := made(t, have)
	for a := range 4 {
		for c := range 2 {
			for d := range 3 {
				v := Versions{a, 0, c, d}
				want := Delta{v, logs{have[0][a:], nil, have[2][c:], have[3][d:]}}
				if got, e := s.Since(v); e != api.OK || !same(got, want) {
					t.Errorf("%v: %v, %d", v, got, e)
				}
			}
		}
	}
	is(t, s, have)
}

func TestSinceOfTheExample(t *testing.T) {
	s := New()
	revokes(t, s, api.OK, 1, 7)
	d, e := s.Since(Versions{})
	if s.Versions() != (Versions{0, 1, 0, 0}) || e != api.OK || !same(d, Delta{Logs: logs{1: {7}}}) {
		t.Error(s.Versions(), d, e)
	}
}

func TestSinceOfWrongVersions(t *testing.T) {
	for _, have := range []logs{{}, {{5, 9, 7}, nil, {65535}, {1, 5}}, {row(1, 256), row(1, 256), row(1, 256), row(1, 256)}} {
		s := made(t, have)
		for seed := range have {
			for _, n := range []int{-1, -256, math.MinInt, len(have[seed]) + 1, 257, math.MaxInt} {
				for _, v := range []Versions{{}, s.Versions()} {
					v[seed] = n
					if d, e := s.Since(v); e != api.ErrRange || !reflect.DeepEqual(d, Delta{}) {
						t.Errorf("%v: %v, %d", v, d, e)
					}
				}
			}
		}
		is(t, s, have)
	}
}

// P8.2: Apply.

func TestApply(t *testing.T) {
	have := logs{{5, 9}, nil, {5}, nil}
	for _, c := range []struct {
		d    Delta
		n    int
		want logs
	}{
		{Delta{}, 0, have},
		{Delta{From: Versions{2, 0, 1, 0}}, 0, have},
		{Delta{From: Versions{1, 0, 0, 0}}, 0, have},
		{Delta{Logs: logs{{5}}}, 0, have},
		{Delta{Logs: logs{{5, 9}, nil, {5}, nil}}, 0, have},
		{Delta{Versions{1}, logs{{9}}}, 0, have},
		{Delta{Versions{1}, logs{{9, 7}}}, 1, logs{{5, 9, 7}, nil, {5}, nil}},
		{Delta{Versions{2}, logs{{7, 1, 65535}}}, 3, logs{{5, 9, 7, 1, 65535}, nil, {5}, nil}},
		{Delta{Logs: logs{{5, 9, 7}, {1}, {5, 9}, {65535}}}, 4, logs{{5, 9, 7}, {1}, {5, 9}, {65535}}},
		// Those that another seed's log has are new in theirs.
		{Delta{Logs: logs{1: {5, 9}, 3: {5}}}, 3, logs{{5, 9}, {5, 9}, {5}, {5}}},
		{Delta{Versions{2, 0, 1, 0}, logs{nil, {9}, {9}, {9}}}, 3, logs{{5, 9}, {9}, {5, 9}, {9}}},
	} {
		applied(t, have, c.d, c.n, api.OK, c.want)
	}
}

func TestApplyOfWrongVersions(t *testing.T) {
	for _, have := range []logs{{}, {{5, 9}, nil, {5}, nil}, {row(1, 256), row(1, 256), row(1, 256), row(1, 256)}} {
		for _, seed := range seeds {
			for _, n := range []int{-1, -256, math.MinInt, 257, 258, 65535, 65536, math.MaxInt} {
				d := Delta{}
				d.From[seed] = n
				refused(t, have, d, api.ErrRange)
				d.Logs[seed] = []int{1}
				refused(t, have, d, api.ErrRange)
			}
		}
	}
}

func TestApplyOfWrongSerials(t *testing.T) {
	have := logs{{5, 9}, nil, {5}, nil}
	for _, seed := range seeds {
		for _, serial := range noSerials {
			for _, l := range [][]int{{serial}, {serial, 1}, {1, serial}, append(slices.Clone(have[seed]), serial), append(slices.Clone(have[seed]), 1, serial, 2)} {
				d := Delta{}
				d.Logs[seed] = l
				refused(t, have, d, api.ErrRange)
			}
		}
	}
}

// A delta that begins above is refused, also where it has nothing there.
func TestApplyAboveTheVersion(t *testing.T) {
	have := logs{{5, 9}, nil, {5}, row(1, 255)}
	for _, seed := range seeds {
		for _, n := range []int{len(have[seed]) + 1, 256} {
			for _, l := range [][]int{nil, {}, {7}, {300, 301}} {
				d := Delta{}
				d.From[seed], d.Logs[seed] = n, l
				refused(t, have, d, api.ErrOld)
				d.Logs[(seed+1)%4] = slices.Clone(have[(seed+1)%4])
				refused(t, have, d, api.ErrOld)
			}
		}
	}
}

func TestApplyWhereLogsDiffer(t *testing.T) {
	have := logs{{5, 9, 7}, nil, {5}, row(1, 256)}
	for _, d := range []Delta{
		{Logs: logs{{6}}}, {Logs: logs{{9}}}, {Logs: logs{{5, 7}}}, {Logs: logs{{5, 9, 8}}}, {Logs: logs{{5, 9, 8, 7}}}, {Logs: logs{{6, 9, 7}}},
		{From: Versions{1}, Logs: logs{{5}}}, {From: Versions{1}, Logs: logs{{9, 8}}}, {From: Versions{2}, Logs: logs{{8}}},
		{Logs: logs{{5, 9, 7, 8}, {1}, {6}, nil}}, {Logs: logs{2: {6, 5}}}, {From: Versions{3: 255}, Logs: logs{3: {255}}},
	} {
		refused(t, have, d, api.ErrForm)
	}
}

// A log would have one twice: of the delta's own, or of what the set has, behind or
// ahead of where the delta begins.
func TestApplyOfOneTwice(t *testing.T) {
	have := logs{{5, 9, 7}, nil, {5}, row(1, 255)}
	for _, d := range []Delta{
		{Logs: logs{1: {2, 2}}}, {Logs: logs{1: {2, 3, 2}}}, {Logs: logs{1: {1, 2, 3, 3}}}, {Logs: logs{{5, 5}}}, {Logs: logs{{5, 9, 7, 5}}},
		{Logs: logs{{5, 9, 7, 1, 1}}}, {Versions{3}, logs{{5}}}, {Versions{3}, logs{{7}}}, {Versions{3}, logs{{1, 9}}}, {Versions{2}, logs{{7, 7}}},
		{Versions{1}, logs{{9, 7, 5}}}, {Versions{2: 1}, logs{2: {5}}}, {Versions{2: 1}, logs{{5, 9, 7, 1}, {1}, {5}, nil}},
		{Versions{3: 255}, logs{3: {1}}}, {Versions{3: 255}, logs{3: {255}}},
	} {
		refused(t, have, d, api.ErrForm)
	}
}

func TestApplyOfMoreThan256(t *testing.T) {
	for _, seed := range seeds {
		var empty, some, full logs
		some[seed], full[seed] = row(1, 200), row(1, 256)
		delta := func(from int, l []int) Delta {
			d := Delta{}
			d.From[seed], d.Logs[seed] = from, l
			return d
		}
		applied(t, empty, delta(0, row(1, 256)), 256, api.OK, full)
		applied(t, some, delta(0, row(1, 256)), 56, api.OK, full)
		applied(t, some, delta(200, row(201, 56)), 56, api.OK, full)
		applied(t, some, delta(199, row(200, 57)), 56, api.OK, full)
		applied(t, full, delta(0, row(1, 256)), 0, api.OK, full)
		applied(t, full, delta(256, nil), 0, api.OK, full)
		applied(t, full, delta(255, []int{256}), 0, api.OK, full)
		refused(t, empty, delta(0, row(1, 257)), api.ErrFull)
		refused(t, empty, delta(0, row(1, 65535)), api.ErrFull)
		refused(t, some, delta(0, row(1, 257)), api.ErrFull)
		refused(t, some, delta(200, row(201, 57)), api.ErrFull)
		refused(t, some, delta(100, row(101, 157)), api.ErrFull)
		refused(t, full, delta(256, []int{257}), api.ErrFull)
		refused(t, full, delta(255, []int{256, 257}), api.ErrFull)
		refused(t, full, delta(0, row(1, 257)), api.ErrFull)
	}
}

// Where several errors would be told, the first of them is, in whichever logs they are;
// and the logs that are right aren't longer then.
func TestWhichErrorApplyTells(t *testing.T) {
	have := logs{row(1, 250), row(1, 250), row(1, 250), row(1, 250)}
	faults := []struct {
		from int
		l    []int
		e    api.Errno
	}{
		{-1, nil, api.ErrRange}, {257, nil, api.ErrRange}, {250, []int{0}, api.ErrRange}, {250, []int{1000, 65536}, api.ErrRange},
		{251, nil, api.ErrOld}, {256, []int{1000}, api.ErrOld},
		{249, []int{1000}, api.ErrForm}, {250, []int{1000, 1000}, api.ErrForm}, {250, []int{250}, api.ErrForm},
		{250, row(251, 7), api.ErrFull}, {0, row(1, 257), api.ErrFull},
		{250, []int{1000}, api.OK}, {0, row(1, 256), api.OK},
	}
	for i, a := range faults {
		for _, b := range faults[i:] {
			for _, one := range seeds {
				for _, two := range seeds {
					if one == two {
						continue
					}
					d := Delta{}
					d.From[one], d.Logs[one] = a.from, a.l
					d.From[two], d.Logs[two] = b.from, b.l
					if a.e != api.OK {
						refused(t, have, d, a.e)
					}
				}
			}
		}
	}
}

// Several errors in one log.
func TestWhichErrorOfOneLogApplyTells(t *testing.T) {
	have := logs{{5, 9}}
	for _, c := range []struct {
		from int
		l    []int
		e    api.Errno
	}{
		{257, []int{0}, api.ErrRange}, {3, []int{0}, api.ErrRange}, {0, []int{6, 0}, api.ErrRange}, {2, append(row(1, 300), 0), api.ErrRange},
		{3, []int{7, 7}, api.ErrOld}, {3, row(20, 300), api.ErrOld}, {256, []int{5}, api.ErrOld},
		{0, row(20, 300), api.ErrForm}, {2, row(1, 300), api.ErrForm}, {2, append(row(20, 300), 20), api.ErrForm},
		{2, row(20, 255), api.ErrFull}, {2, row(20, 254), api.OK},
	} {
		d := Delta{From: Versions{c.from}, Logs: logs{c.l}}
		if c.e == api.OK {
			applied(t, have, d, 254, api.OK, logs{append([]int{5, 9}, c.l...)})
		} else {
			refused(t, have, d, c.e)
		}
	}
}

// All deltas of a few small numbers, held against what is to be answered.
func TestManySmallDeltas(t *testing.T) {
	var lists [][]int
	for n := range 4 {
		for i := range 1 << (2 * n) {
			var l []int
			for j := range n {
				l = append(l, i>>(2*j)&3)
			}
			lists = append(lists, l)
		}
	}
	for _, have := range []logs{{}, {{1}}, {{2, 1}}, {{3, 1, 2}}} {
		for from := -1; from < 5; from++ {
			for _, l := range lists {
				applies(t, made(t, have), have, Delta{Versions{from}, logs{l}})
			}
		}
	}
}

func TestADeltaIsNotChangedAndNotKept(t *testing.T) {
	for _, have := range []logs{{}, {{5}, {7}}} {
		d := Delta{Logs: logs{append(make([]int, 0, 9), 5, 9), append(make([]int, 0, 9), 7, 8, 6), nil, {}}}
		before := copied(d.Logs)
		s := made(t, have)
		if _, e := s.Apply(d); e != api.OK || !same(d, Delta{Logs: before}) {
			t.Error(d, e)
		}
		revokes(t, s, api.OK, 0, 1)
		revokes(t, s, api.OK, 1, 1)
		for _, log := range d.Logs {
			if slices.ContainsFunc(log[len(log):cap(log)], func(n int) bool { return n != 0 }) {
				t.Error("behind the list it is changed")
			}
			scribble(log)
		}
		is(t, s, logs{{5, 9, 1}, {7, 8, 6, 1}, nil, nil})
	}
}

// P8.2: Covers and Join.

func TestCoversAndJoin(t *testing.T) {
	numbers := []int{math.MinInt, -1, 0, 1, 2, 256, 257, math.MaxInt}
	for seed := range 4 {
		for _, m := range numbers {
			for _, n := range numbers {
				a, b := Versions{3, 3, 3, 3}, Versions{3, 3, 3, 3}
				a[seed], b[seed] = m, n
				want := a
				want[seed] = max(m, n)
				if Covers(a, b) != (m >= n) || Join(a, b) != want || Join(b, a) != want {
					t.Errorf("%v, %v: %v, %v", a, b, Covers(a, b), Join(a, b))
				}
			}
		}
	}
	if Covers(Versions{9, 0, 9, 9}, Versions{0, 1, 0, 0}) || Covers(Versions{0, 1, 0, 0}, Versions{9, 0, 9, 9}) {
		t.Error("neither covers the other")
	}
	if got := Join(Versions{1, 9, 2, -5}, Versions{3, 0, 2, -4}); got != (Versions{3, 9, 2, -4}) {
		t.Error(got)
	}
}

func TestCoversAndJoinOfAllSmallOnes(t *testing.T) {
	all := func(i int) Versions { return Versions{i % 3, i / 3 % 3, i / 9 % 3, i / 27} }
	for i := range 81 {
		for j := range 81 {
			a, b := all(i), all(j)
			if want := a[0] >= b[0] && a[1] >= b[1] && a[2] >= b[2] && a[3] >= b[3]; Covers(a, b) != want {
				t.Errorf("%v, %v: %v", a, b, Covers(a, b))
			}
			if j := Join(a, b); !Covers(j, a) || !Covers(j, b) || j != Join(b, a) {
				t.Errorf("%v, %v: %v", a, b, j)
			}
		}
	}
}

// P8.3: Bytes.

// rightBytes is a delta's bytes, by the library's own means.
func rightBytes(d Delta) []byte {
	var b []byte
	for seed, log := range d.Logs {
		b = binary.BigEndian.AppendUint16(b, uint16(d.From[seed]))
		b = binary.BigEndian.AppendUint16(b, uint16(len(log)))
		for _, serial := range log {
			b = binary.BigEndian.AppendUint16(b, uint16(serial))
		}
	}
	return b
}

func TestBytes(t *testing.T) {
	for _, c := range []struct {
		d    Delta
		want string
	}{
		{Delta{}, "00000000" + "00000000" + "00000000" + "00000000"},
		{Delta{Logs: logs{1: {7}}}, "00000000" + "00000001" + "0007" + "00000000" + "00000000"},
		{Delta{Versions{1, 0, 256, 255}, logs{{258, 65535}, nil, {1}, {7}}}, "00010002" + "0102ffff" + "00000000" + "01000001" + "0001" + "00ff0001" + "0007"},
	} {
		b, e := Bytes(c.d)
		if e != api.OK || hex.EncodeToString(b) != c.want {
			t.Errorf("%v: %x, %d", c.d, b, e)
		}
		if back, e := Parse(b); e != api.OK || !same(back, c.d) {
			t.Errorf("%v: %v, %d", c.d, back, e)
		}
	}
}

// noBytes tells if Bytes doesn't answer this error.
func noBytes(t *testing.T, d Delta, want api.Errno) {
	t.Helper()
	if b, e := Bytes(d); b != nil || e != want {
		t.Errorf("%v: %x, %d, not %d", d.From, b, e, want)
	}
}

func TestBytesOfWrongOnes(t *testing.T) {
	for _, seed := range seeds {
		for _, n := range []int{-1, math.MinInt, 257, 65535, 65536, math.MaxInt} {
			d := Delta{}
			d.From[seed] = n
			noBytes(t, d, api.ErrRange)
		}
		for _, serial := range noSerials {
			for _, l := range [][]int{{serial}, {1, serial}, {serial, 1}, append(row(1, 600), serial), append([]int{serial}, row(1, 70000)[:600]...)} {
				d := Delta{}
				d.Logs[seed] = l
				noBytes(t, d, api.ErrRange)
			}
		}
	}
}

// 504 serials, wherever they stand, are 1024 bytes.
func TestBytesOfMoreThan1024(t *testing.T) {
	for _, c := range []struct {
		l    logs
		want api.Errno
	}{
		{logs{row(1, 256), row(1, 248)}, api.OK}, {logs{row(1, 256), row(1, 249)}, api.ErrLong}, {logs{row(1, 256), nil, row(1, 248), {1}}, api.ErrLong},
		{logs{row(1, 126), row(1, 126), row(1, 126), row(1, 126)}, api.OK}, {logs{row(1, 126), row(1, 126), row(1, 126), row(1, 127)}, api.ErrLong},
		{logs{row(1, 127), row(1, 126), row(1, 126), row(1, 126)}, api.ErrLong}, {logs{3: row(1, 65535)}, api.ErrLong}, {logs{row(1, 65535)}, api.ErrLong},
		// A count of more than two bytes.
		{logs{slices.Repeat([]int{7}, 65536)}, api.ErrLong}, {logs{3: slices.Repeat([]int{7}, 65536)}, api.ErrLong}, {logs{1: slices.Repeat([]int{7}, 65537)}, api.ErrLong},
	} {
		if c.want != api.OK {
			noBytes(t, Delta{Logs: c.l}, c.want)
			continue
		}
		b, e := Bytes(Delta{Logs: c.l})
		if e != api.OK || len(b) != 1024 || !bytes.Equal(b, rightBytes(Delta{Logs: c.l})) {
			t.Errorf("%v: %d, %d", lengths(c.l), len(b), e)
		}
	}
	noBytes(t, Delta{From: Versions{3: 257}, Logs: logs{row(1, 600)}}, api.ErrRange)
	noBytes(t, Delta{Logs: logs{slices.Repeat([]int{7}, 65536), nil, nil, {0}}}, api.ErrRange)
}

// Bytes doesn't ask whether a set would take the delta.
func TestBytesOfWhatNoSetTakes(t *testing.T) {
	for _, d := range []Delta{{Logs: logs{{7, 7}}}, {Versions{256}, logs{{7}}}, {Logs: logs{row(1, 257)}}, {Logs: logs{row(1, 504)}}} {
		if b, e := Bytes(d); e != api.OK || !bytes.Equal(b, rightBytes(d)) {
			t.Errorf("%v: %x, %d", d, b, e)
		}
	}
}

// P8.3: Parse.

// parses tells if Parse doesn't answer this delta.
func parses(t *testing.T, b []byte, want Delta) {
	t.Helper()
	if d, e := Parse(b); e != api.OK || !same(d, want) {
		t.Errorf("%x: %v, %d, not %v", b, d, e, want)
	}
}

// noDelta tells if Parse doesn't answer this error.
func noDelta(t *testing.T, b []byte, want api.Errno) {
	t.Helper()
	if d, e := Parse(b); e != want || !reflect.DeepEqual(d, Delta{}) {
		t.Errorf("%x: %v, %d, not %d", b, d, e, want)
	}
}

func TestParse(t *testing.T) {
	for _, d := range []Delta{
		{}, {Logs: logs{1: {7}}}, {Versions{256, 256, 256, 256}, logs{{65535}, {1}, {256}, {255}}}, {Versions{1, 2, 3, 4}, logs{{1, 2}, nil, {1}, row(300, 100)}},
		{Logs: logs{row(1, 256), row(1, 248)}}, {Logs: logs{3: row(65280, 256)}},
		// Whether a set takes it isn't asked.
		{Logs: logs{{7, 7}}}, {Versions{256}, logs{{7}}},
	} {
		parses(t, rightBytes(d), d)
	}
}

func TestParseOfFewerAndOfMore(t *testing.T) {
	for _, d := range []Delta{{}, {Versions{1, 2, 3, 4}, logs{{1, 2}, nil, {1}, {9, 8, 7}}}, {Logs: logs{row(1, 256), row(1, 247)}}} {
		b := rightBytes(d)
		for n := range b {
			noDelta(t, b[:n], api.ErrEnd)
		}
		for n := 1; len(b)+n <= 1024; n++ {
			noDelta(t, append(slices.Clone(b), make([]byte, n)...), api.ErrForm)
		}
		for _, n := range []int{1025, 1026, 70000} {
			noDelta(t, append(slices.Clone(b), make([]byte, n-len(b))...), api.ErrLong)
		}
	}
	noDelta(t, nil, api.ErrEnd)
	noDelta(t, []byte{}, api.ErrEnd)
	noDelta(t, rightBytes(Delta{Logs: logs{row(1, 256), row(1, 249)}}), api.ErrLong)
}

func TestParseOfWrongOnes(t *testing.T) {
	for _, seed := range seeds {
		for _, n := range []int{257, 258, 512, 65535} {
			d := Delta{}
			d.From[seed] = n
			noDelta(t, rightBytes(d), api.ErrForm)
			d.Logs[seed] = []int{1, 2}
			noDelta(t, rightBytes(d), api.ErrForm)
		}
		for _, l := range [][]int{{0}, {0, 1}, {1, 0}, {1, 0, 2}, append(row(1, 255), 0), row(1, 257), row(1, 300), row(1, 504)} {
			d := Delta{}
			d.Logs[seed] = l
			noDelta(t, rightBytes(d), api.ErrForm)
		}
	}
}

// The reader's error is told ahead of the others, wherever it is.
func TestWhichErrorParseTells(t *testing.T) {
	for _, d := range []Delta{{From: Versions{257}}, {Logs: logs{{0}}}, {Logs: logs{row(1, 300)}}, {Versions{65535, 0, 0, 65535}, logs{{0, 1}, nil, {0}, {0}}}} {
		b := rightBytes(d)
		for n := range b {
			noDelta(t, b[:n], api.ErrEnd)
		}
		noDelta(t, b, api.ErrForm)
		noDelta(t, append(slices.Clone(b), 0), api.ErrForm)
		noDelta(t, append(slices.Clone(b), make([]byte, 1025-len(b))...), api.ErrLong)
	}
	// Counts above 256, whose serials are missing.
	for _, count := range []uint16{257, 505, 32768, 65535} {
		b := binary.BigEndian.AppendUint16([]byte{0, 0}, count)
		noDelta(t, b, api.ErrEnd)
		noDelta(t, append(b, make([]byte, 512)...), api.ErrEnd)
	}
	noDelta(t, bytes.Repeat([]byte{255}, 1024), api.ErrEnd)
	noDelta(t, bytes.Repeat([]byte{255}, 1025), api.ErrLong)
}

func TestBytesAreNotChangedAndNotShared(t *testing.T) {
	want := Delta{Versions{1, 0, 0, 0}, logs{{9, 7}, {258}, nil, nil}}
	d := Delta{want.From, copied(want.Logs)}
	out, _ := Bytes(d)
	if !same(d, want) {
		t.Error("what was handed in is changed")
	}
	scribble(d.Logs[0])
	if !bytes.Equal(out, rightBytes(want)) {
		t.Error("what was handed in is kept")
	}
	in := append(make([]byte, 0, 64), out...)
	before := bytes.Clone(in[:cap(in)])
	got, e := Parse(in)
	if e != api.OK || !bytes.Equal(in[:cap(in)], before) {
		t.Error("what was handed in is changed", e)
	}
	clear(in[:cap(in)])
	if !same(got, want) {
		t.Error("what was handed in is kept")
	}
	scribble(append(got.Logs[0], 1))
	parses(t, out, want)
}

// P8.4: sets that are told of one another.

// histories is four rows of serials, each serial once, of which logs are beginnings.
func histories(draws *rand.Rand) logs {
	var out logs
	for seed := range out {
		for _, n := range draws.Perm(400)[:256] {
			out[seed] = append(out[seed], 1+n*163)
		}
	}
	return out
}

// beginnings is the first ones of each log.
func beginnings(draws *rand.Rand, of logs, most int) logs {
	for seed := range of {
		of[seed] = of[seed][:draws.Intn(most+1)]
	}
	return of
}

// lower is of each the smaller.
func lower(a, b Versions) Versions {
	for seed := range a {
		a[seed] = min(a[seed], b[seed])
	}
	return a
}

// tell applies what the one has, beyond what both have, to the other.
func tell(t *testing.T, from, to *Set) {
	t.Helper()
	d, e := from.Since(lower(from.Versions(), to.Versions()))
	if e != api.OK {
		t.Error(e)
	}
	want := Join(from.Versions(), to.Versions())
	grows := sum(want) - sum(to.Versions())
	if n, e := to.Apply(d); n != grows || e != api.OK || to.Versions() != want {
		t.Errorf("%d, %d, %v, not %d, %v", n, e, to.Versions(), grows, want)
	}
}

func TestSetsThatTellOneAnother(t *testing.T) {
	draws := rand.New(rand.NewSource(84))
	for range 300 {
		of := histories(draws)
		most := []int{2, 20, 256}[draws.Intn(3)]
		var have [3]logs
		var sets [3]*Set
		for i := range have {
			have[i] = beginnings(draws, of, most)
			sets[i] = made(t, have[i])
		}
		var longest logs
		for seed, log := range of {
			longest[seed] = log[:max(len(have[0][seed]), len(have[1][seed]), len(have[2][seed]))]
		}
		one, two, three := sets[0].Copy(), sets[0].Copy(), sets[1].Copy()
		tell(t, sets[1], one)
		tell(t, sets[2], one)
		tell(t, sets[2], two)
		tell(t, sets[1], two)
		tell(t, two, three)
		for i, s := range []*Set{one, two, three} {
			is(t, s, longest)
			tell(t, s, sets[i])
			tell(t, sets[i], s)
			is(t, sets[i], longest)
		}
	}
}

// A set that is told again what it was told is as it was, also by way of bytes.
func TestDeltasByWayOfBytes(t *testing.T) {
	draws := rand.New(rand.NewSource(85))
	for range 300 {
		of := histories(draws)
		have, other := beginnings(draws, of, 60), beginnings(draws, of, 120)
		s, o := made(t, have), made(t, other)
		v := lower(s.Versions(), o.Versions())
		d, e := o.Since(v)
		b, f := Bytes(d)
		back, g := Parse(b)
		if e != api.OK || f != api.OK || g != api.OK || !same(back, d) || !bytes.Equal(b, rightBytes(d)) {
			t.Fatalf("%v, %v, %d, %d, %d", d, back, e, f, g)
		}
		want := applies(t, s, have, back)
		applies(t, s, want, back)
		applies(t, s, want, d)
	}
}

// Sets of logs that aren't beginnings of one another's: the one doesn't take what the
// other tells, and stays as it was.
func TestSetsThatDiffer(t *testing.T) {
	draws := rand.New(rand.NewSource(86))
	refusals := 0
	for range 300 {
		have, other := beginnings(draws, histories(draws), 3), beginnings(draws, histories(draws), 3)
		s, o := made(t, have), made(t, other)
		d, e := o.Since(Versions{})
		if e != api.OK {
			t.Fatal(e)
		}
		applies(t, s, have, d)
		if _, _, e := wantApply(have, d); e == api.ErrForm {
			refusals++
		}
	}
	if refusals == 0 || refusals == 300 {
		t.Error(refusals)
	}
}

// P1 and P2, for all calls.

// numbers is a row of numbers of these bytes, small ones, great ones and wrong ones.
func numbers(b []byte) []int {
	var out []int
	for i, x := range b {
		switch {
		case x < 200:
			out = append(out, int(x))
		case x < 210:
			out = append(out, 65530+int(x-200))
		case x < 220:
			out = append(out, 250+int(x-210))
		default:
			out = append(out, []int{0, -1, math.MinInt, math.MaxInt, 1 << 32}[i%5])
		}
	}
	return out
}

// story is what all calls answer, one behind the other.
func story(first, second []byte, seed, n int) string {
	one, two := numbers(first), numbers(second)
	d := Delta{Versions{0, 0, 0, n}, logs{one, nil, two, one}}
	var out []any
	for _, s := range []*Set{New(), nil, {}} {
		out = append(out, s.Revoke(seed, one...), s.Revoke(seed&3, two...), s.Revoke(0, n), s.Versions(), s.All(), s.Log(seed), s.Has(n))
		k, e := s.Apply(d)
		out = append(out, k, e)
		for _, v := range []Versions{{}, {n, 0, 0, n}, s.Versions()} {
			given, e := s.Since(v)
			b, f := Bytes(given)
			out = append(out, given, e, b, f, Covers(v, s.Versions()), Join(v, s.Versions()))
		}
		out = append(out, s.Print(), s.Copy().Print())
	}
	b, e := Bytes(d)
	p, f := Parse(first)
	q, g := Parse(b)
	return fmt.Sprint(append(out, b, e, p, f, q, g)...)
}

func FuzzRevoke(f *testing.F) {
	f.Add([]byte{5, 9}, []byte{7, 7}, 0, 5)
	f.Add([]byte{5, 9, 205}, []byte{7, 201}, 3, 0)
	f.Add(make([]byte, 16), []byte{255}, -1, 257)
	f.Add(append([]byte{0, 0, 0, 1, 0, 7}, make([]byte, 12)...), []byte{}, 4, math.MinInt)
	f.Fuzz(func(t *testing.T, first, second []byte, seed, n int) {
		if story(first, second, seed, n) != story(first, second, seed, n) {
			t.Error("the same calls answer otherwise")
		}
		if d, e := Parse(first); e == api.OK {
			if b, e := Bytes(d); e != api.OK || !bytes.Equal(b, first) {
				t.Errorf("%x: %x, %d", first, b, e)
			}
		}
		s, have := New(), logs{}
		for seed, l := range [][]int{numbers(first), numbers(second)} {
			e := wantRevoke(have, seed, l)
			revokes(t, s, e, seed, l...)
			if e == api.OK {
				have[seed] = l
			}
		}
		d := Delta{Logs: logs{numbers(second), nil, numbers(first), nil}}
		d.From[seed&3] = n
		applies(t, s, have, d)
	})
}
