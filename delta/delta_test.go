package delta

import (
	"bytes"
	"crypto/sha256"
	"encoding/binary"
	"encoding/hex"
	"math"
	"slices"
	"testing"

	"vigil/api"
	"vigil/revoke"
	"vigil/wire"
)

type logs = [4][]int

var (
	seeds      = []int{0, 1, 2, 3}
	noVersions = []int{-1, -256, -65536, math.MinInt, 257, 258, 512, 65535, 65536, 1<<16 + 7, 1<<32 + 7, math.MaxInt}
)

// row is so many serials, from the first one on.
func row(first, n int) []int {
	var out []int
	for i := range n {
		out = append(out, first+i)
	}
	return out
}

// copied is the same logs, in memory of their own.
func copied(l logs) logs {
	for seed := range l {
		l[seed] = slices.Clone(l[seed])
	}
	return l
}

// made is a set of these logs.
func made(t *testing.T, l logs) *revoke.Set {
	t.Helper()
	s := revoke.New()
	for seed, log := range l {
		if e := s.Revoke(seed, log...); e != api.OK {
			t.Fatal(l, e)
		}
	}
	return s
}

// logsOf is what a set has.
func logsOf(s *revoke.Set) logs {
	return logs{s.Log(0), s.Log(1), s.Log(2), s.Log(3)}
}

func equal(a, b logs) bool {
	return slices.EqualFunc(a[:], b[:], slices.Equal[[]int])
}

// has tells if the set hasn't just these logs.
func has(t *testing.T, s *revoke.Set, want logs) {
	t.Helper()
	if got := logsOf(s); !equal(got, want) {
		t.Errorf("the set has %v, not %v", got, want)
	}
}

func lengths(l logs) revoke.Versions {
	return revoke.Versions{len(l[0]), len(l[1]), len(l[2]), len(l[3])}
}

// rightDigest is the digest of logs, by the library's own means.
func rightDigest(l logs) Digest {
	var b []byte
	for _, log := range l {
		b = binary.BigEndian.AppendUint16(b, uint16(len(log)))
		for _, serial := range log {
			b = binary.BigEndian.AppendUint16(b, uint16(serial))
		}
	}
	sum := sha256.Sum256(b)
	return Digest{lengths(l), [8]byte(sum[:8])}
}

// rightBytes is a digest's bytes, by the library's own means.
func rightBytes(d Digest) []byte {
	var b []byte
	for _, n := range d.Versions {
		b = binary.BigEndian.AppendUint16(b, uint16(n))
	}
	return append(b, d.Print[:]...)
}

// some are logs of many kinds.
func some() []logs {
	return []logs{
		{}, {{7}}, {nil, {7}}, {nil, nil, {7}}, {nil, nil, nil, {7}}, {{5, 65535}, {7}, nil, {258, 5}}, {{5, 9}, {9, 5}, {1}, {5, 9}},
		{row(1, 255), nil, row(1, 256), nil}, {row(1, 256), row(2, 256), row(3, 256), row(4, 256)}, {nil, row(65280, 256), nil, {1}},
	}
}

func TestTheNumbers(t *testing.T) {
	s := revoke.New()
	_, long := Answer(s, revoke.Versions{}, 15)
	_, state := Answer(nil, revoke.Versions{}, 16)
	_, wide := Answer(s, revoke.Versions{257}, 16)
	_, none := Bytes(Digest{Versions: revoke.Versions{-1}})
	_, form := Read(wire.New(append([]byte{1, 1}, make([]byte, 14)...)))
	_, end := Read(wire.New(make([]byte, 15)))
	_, nobody := Read(nil)
	got := []api.Errno{long, state, wide, none, form, end, nobody}
	if want := []api.Errno{2, 11, 10, 10, 3, 4, 11}; !slices.Equal(got, want) {
		t.Error(got)
	}
	if Long != 16 {
		t.Error(Long)
	}
}

// P9.1: Of.

func TestOf(t *testing.T) {
	for _, l := range some() {
		s := made(t, l)
		if got := Of(s); got != rightDigest(l) {
			t.Errorf("%v: %v, not %v", l, got, rightDigest(l))
		}
		has(t, s, l)
	}
}

func TestOfOneWithoutAny(t *testing.T) {
	for _, s := range []*revoke.Set{nil, {}, revoke.New()} {
		if got := Of(s); got.Versions != (revoke.Versions{}) || got != rightDigest(logs{}) {
			t.Error(got)
		}
	}
}

// Digests as another program works them out.
func TestKnownDigests(t *testing.T) {
	for _, c := range []struct {
		have logs
		want string
	}{
		{logs{}, "0000000000000000" + "af5570f5a1810b7a"},
		{logs{nil, {7}, nil, nil}, "0000000100000000" + "901a4d9259a05cfd"},
		{logs{{5, 65535}, {7}, nil, {258, 5}}, "0002000100000002" + "5d65bf8600ff23f3"},
	} {
		b, e := Bytes(Of(made(t, c.have)))
		if e != api.OK || hex.EncodeToString(b) != c.want {
			t.Errorf("%v: %x, %d", c.have, b, e)
		}
	}
}

// A digest is of the set as it was then.
func TestADigestStays(t *testing.T) {
	s := made(t, logs{{5}})
	d := Of(s)
	s.Revoke(0, 6)
	if d != rightDigest(logs{{5}}) || Of(s) != rightDigest(logs{{5, 6}}) {
		t.Error(d, Of(s))
	}
}

// P9.1: Bytes.

// eightBytes is a print of bytes that are all other ones.
var eightBytes = [8]byte{0, 255, 1, 128, 127, 2, 9, 254}

func TestBytes(t *testing.T) {
	for _, c := range []struct {
		d    Digest
		want string
	}{
		{Digest{}, "00000000000000000000000000000000"},
		{Digest{revoke.Versions{1, 2, 3, 4}, eightBytes}, "0001000200030004" + "00ff01807f0209fe"},
		{Digest{revoke.Versions{256, 0, 255, 256}, [8]byte{7: 1}}, "0100000000ff0100" + "0000000000000001"},
	} {
		if b, e := Bytes(c.d); e != api.OK || hex.EncodeToString(b) != c.want {
			t.Errorf("%v: %x, %d", c.d, b, e)
		}
	}
}

// with is a digest that has n in one log, and others that are right in the others.
func with(seed, n int) Digest {
	d := Digest{revoke.Versions{3, 0, 256, 7}, eightBytes}
	d.Versions[seed] = n
	return d
}

// There and back again, of each version that may be, in each log.
func TestBytesAndReadOfEachVersion(t *testing.T) {
	for _, seed := range seeds {
		for n := range 257 {
			d := with(seed, n)
			b, e := Bytes(d)
			if e != api.OK || len(b) != Long || !bytes.Equal(b, rightBytes(d)) {
				t.Errorf("%v: %x, %d", d, b, e)
			}
			reads(t, wire.New(b), d, api.OK, api.OK, 0)
		}
	}
}

func TestBytesOfWrongVersions(t *testing.T) {
	for _, seed := range seeds {
		for _, n := range noVersions {
			for _, d := range []Digest{with(seed, n), {Versions: with(seed, n).Versions}} {
				if b, e := Bytes(d); b != nil || e != api.ErrRange {
					t.Errorf("%v: %x, %d", d, b, e)
				}
			}
		}
	}
}

func TestBytesAreNewEachTime(t *testing.T) {
	d := with(0, 1)
	one, _ := Bytes(d)
	two, _ := Bytes(d)
	clear(one[:cap(one)])
	if d != with(0, 1) || !bytes.Equal(two, rightBytes(d)) {
		t.Errorf("%v, %x", d, two)
	}
}

// P9.1: Read.

// reads tells unless Read answers this, and leaves the reader so.
func reads(t *testing.T, r *wire.Reader, d Digest, e, err api.Errno, left int) {
	t.Helper()
	if got, f := Read(r); got != d || f != e {
		t.Errorf("%v, %d, not %v, %d", got, f, d, e)
	}
	if r.Err() != err || r.Left() != left {
		t.Errorf("the reader: %d, %d left, not %d, %d", r.Err(), r.Left(), err, left)
	}
}

func TestReadOfSets(t *testing.T) {
	for _, l := range some() {
		b, e := Bytes(Of(made(t, l)))
		if e != api.OK {
			t.Error(l, e)
		}
		reads(t, wire.New(b), rightDigest(l), api.OK, api.OK, 0)
	}
}

// What is behind a digest is left: another field, or another digest.
func TestReadWithMoreBehind(t *testing.T) {
	one, two := with(1, 200), with(3, 0)
	for _, n := range []int{1, 2, 16, 1000, 1008} {
		more := bytes.Repeat([]byte{77}, n)
		r := wire.New(append(rightBytes(one), more...))
		reads(t, r, one, api.OK, api.OK, n)
		if r.End() != api.ErrForm || r.Number(wire.One) != 77 {
			t.Error(n, r.End())
		}
	}
	r := wire.New(slices.Concat([]byte{9}, rightBytes(one), rightBytes(two), []byte{8, 7}))
	if r.Number(wire.One) != 9 {
		t.Error("what is ahead")
	}
	reads(t, r, one, api.OK, api.OK, 18)
	reads(t, r, two, api.OK, api.OK, 2)
	if r.Number(wire.Two) != 8<<8+7 || r.End() != api.OK {
		t.Error("what is behind")
	}
}

func TestReadOfFewer(t *testing.T) {
	for _, d := range []Digest{{}, with(2, 5), with(0, 257), with(3, 65535)} {
		for n := range Long {
			reads(t, wire.New(rightBytes(d)[:n]), Digest{}, api.ErrEnd, api.ErrEnd, 0)
			r := wire.New(slices.Concat(rightBytes(Digest{}), rightBytes(d)[:n]))
			reads(t, r, Digest{}, api.OK, api.OK, n)
			reads(t, r, Digest{}, api.ErrEnd, api.ErrEnd, 0)
		}
	}
	reads(t, wire.New(nil), Digest{}, api.ErrEnd, api.ErrEnd, 0)
	reads(t, new(wire.Reader), Digest{}, api.ErrEnd, api.ErrEnd, 0)
}

// A version of more than 256 is refused, whatever stands beside it; the reader is behind
// the digest then.
func TestReadOfVersionsAbove256(t *testing.T) {
	for _, seed := range seeds {
		reads(t, wire.New(rightBytes(with(seed, 256))), with(seed, 256), api.OK, api.OK, 0)
		for n := 257; n < 65536; n++ {
			if got, e := Read(wire.New(rightBytes(with(seed, n)))); got != (Digest{}) || e != api.ErrForm {
				t.Fatalf("%d: %v, %d", n, got, e)
			}
		}
		r := wire.New(slices.Concat(rightBytes(with(seed, 257)), rightBytes(with(seed, 1))))
		reads(t, r, Digest{}, api.ErrForm, api.OK, Long)
		reads(t, r, with(seed, 1), api.OK, api.OK, 0)
	}
	reads(t, wire.New(bytes.Repeat([]byte{255}, 16)), Digest{}, api.ErrForm, api.OK, 0)
}

// A reader that has an error already tells that one, and nothing is read.
func TestReadOfAReaderWithAnError(t *testing.T) {
	for _, d := range []Digest{with(0, 5), with(0, 300)} {
		b := rightBytes(d)
		for _, c := range []struct {
			b    []byte
			by   func(*wire.Reader)
			want api.Errno
		}{
			{b, func(r *wire.Reader) { r.Get(9) }, api.ErrKind},
			{b, func(r *wire.Reader) { r.Number(wire.Some) }, api.ErrKind},
			{append([]byte{0, 2, 1, 1}, b...), func(r *wire.Reader) { r.Bytes(1) }, api.ErrForm},
			{append([]byte{255, 255}, b...), func(r *wire.Reader) { r.Bytes(512) }, api.ErrForm},
			{b, func(r *wire.Reader) { r.Get(wire.Eight); r.Get(wire.Eight); r.Get(wire.One) }, api.ErrEnd},
			{append(b, make([]byte, 1009)...), func(*wire.Reader) {}, api.ErrLong},
		} {
			r := wire.New(c.b)
			c.by(r)
			reads(t, r, Digest{}, c.want, c.want, 0)
			reads(t, r, Digest{}, c.want, c.want, 0)
		}
	}
}

func TestReadOfNil(t *testing.T) {
	reads(t, nil, Digest{}, api.ErrState, api.ErrState, 0)
}

func TestBytesThatAreReadAreNotChangedAndNotShared(t *testing.T) {
	d := with(1, 9)
	b := rightBytes(d)
	r := wire.New(b)
	got, e := Read(r)
	if e != api.OK || !bytes.Equal(b, rightBytes(d)) {
		t.Errorf("%x, %d", b, e)
	}
	clear(b)
	if got != d {
		t.Error(got)
	}
}

// P9.2: Ask.

// asks tells unless Ask answers so, whatever the print is.
func asks(t *testing.T, s *revoke.Set, v revoke.Versions, want bool) {
	t.Helper()
	var versions revoke.Versions
	if want {
		versions = s.Versions()
	}
	for _, p := range [][8]byte{{}, eightBytes, Of(s).Print} {
		if got, ask := Ask(s, Digest{v, p}); got != versions || ask != want {
			t.Errorf("%v of %v: %v, %v", v, s.Versions(), got, ask)
		}
	}
}

func TestAsk(t *testing.T) {
	have := logs{{5, 9, 7}, {1}, nil, row(1, 255)}
	s := made(t, have)
	for _, c := range []struct {
		v    revoke.Versions
		want bool
	}{
		{revoke.Versions{3, 1, 0, 255}, false},
		// Greater in one log.
		{revoke.Versions{4, 1, 0, 255}, true}, {revoke.Versions{3, 2, 0, 255}, true}, {revoke.Versions{3, 1, 1, 255}, true}, {revoke.Versions{3, 1, 0, 256}, true},
		{revoke.Versions{4, 0, 0, 0}, true}, {revoke.Versions{0, 2, 0, 0}, true}, {revoke.Versions{0, 0, 1, 0}, true}, {revoke.Versions{0, 0, 0, 256}, true},
		// In several.
		{revoke.Versions{4, 2, 0, 255}, true}, {revoke.Versions{4, 0, 1, 0}, true}, {revoke.Versions{256, 256, 256, 256}, true}, {revoke.Versions{4, 2, 1, 256}, true},
		// Less.
		{revoke.Versions{2, 1, 0, 255}, false}, {revoke.Versions{3, 0, 0, 255}, false}, {revoke.Versions{3, 1, 0, 254}, false}, {revoke.Versions{}, false},
		// Such as no set has.
		{revoke.Versions{-1, math.MinInt, -1, -7}, false}, {revoke.Versions{-1, 0, 0, 257}, true}, {revoke.Versions{math.MinInt, 0, math.MaxInt, 0}, true},
	} {
		asks(t, s, c.v, c.want)
	}
	has(t, s, have)
}

func TestAskOfOneWithoutAny(t *testing.T) {
	for _, s := range []*revoke.Set{nil, {}, revoke.New()} {
		asks(t, s, revoke.Versions{}, false)
		asks(t, s, revoke.Versions{-1, -1, -1, -1}, false)
		for _, seed := range seeds {
			v := revoke.Versions{}
			v[seed] = 1
			asks(t, s, v, true)
		}
	}
}

func TestAskOfAllSmallOnes(t *testing.T) {
	all := func(i int) revoke.Versions { return revoke.Versions{i % 3, i / 3 % 3, i / 9 % 3, i / 27} }
	for i := range 81 {
		var l logs
		for seed, n := range all(i) {
			l[seed] = row(1, n)
		}
		s := made(t, l)
		for j := range 81 {
			own, v := all(i), all(j)
			asks(t, s, v, v[0] > own[0] || v[1] > own[1] || v[2] > own[2] || v[3] > own[3])
		}
	}
}

// P9.2: Alike.

func TestAlike(t *testing.T) {
	for i, l := range some() {
		s := made(t, l)
		for j, other := range some() {
			if Alike(s, Of(made(t, other))) != (i == j) || Alike(s, rightDigest(other)) != (i == j) {
				t.Error(l, other)
			}
		}
		has(t, s, l)
	}
}

// Of a digest with another version, or another byte of the print, it isn't.
func TestAlikeOfOthers(t *testing.T) {
	for _, l := range some() {
		s, right := made(t, l), rightDigest(l)
		for _, seed := range seeds {
			for _, n := range []int{right.Versions[seed] - 1, right.Versions[seed] + 1, right.Versions[seed] + 65536, 257, math.MaxInt, math.MinInt} {
				d := right
				d.Versions[seed] = n
				if Alike(s, d) {
					t.Error(l, d)
				}
			}
		}
		for i := range right.Print {
			for bit := range 8 {
				d := right
				d.Print[i] ^= 1 << bit
				if Alike(s, d) {
					t.Error(l, d)
				}
			}
		}
		if Alike(s, Digest{}) || Alike(s, Digest{Versions: right.Versions}) {
			t.Error(l)
		}
	}
}

// Sets of the same versions, whose logs differ.
func TestAlikeOfTheSameVersions(t *testing.T) {
	l := []logs{{{5, 6}}, {{6, 5}}, {{5, 7}}, {{6, 6 + 256}}, {{5 + 256, 6}}}
	for i, one := range l {
		for j, two := range l {
			if Alike(made(t, one), Of(made(t, two))) != (i == j) {
				t.Error(one, two)
			}
		}
	}
}

func TestAlikeOfOneWithoutAny(t *testing.T) {
	for _, s := range []*revoke.Set{nil, {}, revoke.New()} {
		if !Alike(s, rightDigest(logs{})) || !Alike(s, Of(nil)) || Alike(s, Digest{}) || Alike(s, rightDigest(logs{{7}})) {
			t.Error(s)
		}
	}
}

// P9.2: Size.

func TestSize(t *testing.T) {
	for _, c := range []struct {
		l    logs
		want int
	}{
		{logs{}, 16}, {logs{{}, {}, {}, {}}, 16}, {logs{{7}}, 18}, {logs{nil, {7}}, 18}, {logs{nil, nil, {7}}, 18}, {logs{nil, nil, nil, {7}}, 18},
		{logs{{1, 2}, {1}, nil, {3, 4, 5}}, 28}, {logs{row(1, 256), row(1, 248)}, 1024}, {logs{row(1, 256), row(1, 256), row(1, 256), row(1, 256)}, 2064},
		{logs{row(1, 65535), nil, {1}, nil}, 16 + 131072},
	} {
		for _, from := range []revoke.Versions{{}, {1, 2, 3, 4}, {-1, 257, math.MaxInt, math.MinInt}} {
			if got := Size(revoke.Delta{From: from, Logs: c.l}); got != c.want {
				t.Errorf("%v: %d, not %d", lengths(c.l), got, c.want)
			}
		}
	}
	if got := Size(revoke.Delta{Logs: logs{{0}, {-1, 65536}}}); got != 22 {
		t.Error("of serials that are none:", got)
	}
}

// It is as many as there are, where a packet has room for them.
func TestSizeIsThatOfTheBytes(t *testing.T) {
	for n := range 505 {
		d := revoke.Delta{Logs: logs{row(1, min(n, 256)), row(1, n-min(n, 256)), nil, nil}}
		b, e := revoke.Bytes(d)
		if e != api.OK || Size(d) != len(b) {
			t.Errorf("%d: %d, not %d, %d", n, Size(d), len(b), e)
		}
	}
}
