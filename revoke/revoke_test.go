package revoke

import (
	"crypto/sha256"
	"encoding/binary"
	"encoding/hex"
	"math"
	"math/rand"
	"reflect"
	"slices"
	"testing"

	"vigil/api"
)

type logs = [4][]int

var (
	seeds     = []int{0, 1, 2, 3}
	noSeeds   = []int{-1, -4, 4, 5, 255, 256, 1 << 32, math.MinInt, math.MaxInt}
	serials   = []int{1, 2, 7, 255, 256, 257, 32768, 65534, 65535}
	noSerials = []int{0, -1, -7, -65535, 65536, 65537, 1<<16 + 7, 1<<32 + 7, math.MinInt, math.MaxInt}
)

// row is so many serials, from the first one on.
func row(first, n int) []int {
	var out []int
	for i := range n {
		out = append(out, first+i)
	}
	return out
}

// copied is the same logs, in memory of their own.
func copied(l logs) logs {
	for seed := range l {
		l[seed] = slices.Clone(l[seed])
	}
	return l
}

// made is a set of these logs.
func made(t *testing.T, l logs) *Set {
	t.Helper()
	s := New()
	for seed, log := range l {
		revokes(t, s, api.OK, seed, log...)
	}
	return s
}

// revokes tells if Revoke doesn't answer so.
func revokes(t *testing.T, s *Set, want api.Errno, seed int, serials ...int) {
	t.Helper()
	if e := s.Revoke(seed, serials...); e != want {
		t.Errorf("seed %d, %v: %d, not %d", seed, serials, e, want)
	}
}

// rightPrint is the print of logs, by the library's own means.
func rightPrint(l logs) [32]byte {
	var b []byte
	for _, log := range l {
		b = binary.BigEndian.AppendUint16(b, uint16(len(log)))
		for _, serial := range log {
			b = binary.BigEndian.AppendUint16(b, uint16(serial))
		}
	}
	return sha256.Sum256(b)
}

// rising is what the logs have, each once.
func rising(l logs) []int {
	out := slices.Concat(l[:]...)
	slices.Sort(out)
	return slices.Compact(out)
}

func lengths(l logs) Versions {
	return Versions{len(l[0]), len(l[1]), len(l[2]), len(l[3])}
}

// is tells if the set hasn't just these logs, in all that may be asked of it.
func is(t *testing.T, s *Set, want logs) {
	t.Helper()
	if got := s.Versions(); got != lengths(want) {
		t.Errorf("versions %v, not of %v", got, want)
	}
	for seed, log := range want {
		if got := s.Log(seed); !slices.Equal(got, log) {
			t.Errorf("log %d: %v, not %v", seed, got, log)
		}
	}
	all := rising(want)
	if got := s.All(); !slices.Equal(got, all) {
		t.Errorf("all: %v, not %v", got, all)
	}
	if s.Print() != rightPrint(want) {
		t.Errorf("the print isn't that of %v", want)
	}
	for _, serial := range slices.Concat(all, []int{-1, 0, 1, 2, 3, 65535, 65536, math.MinInt, math.MaxInt}) {
		if s.Has(serial) != slices.Contains(all, serial) {
			t.Errorf("%d: %v", serial, s.Has(serial))
		}
	}
}

func TestTheNumbers(t *testing.T) {
	s := made(t, logs{{5}})
	_, since := s.Since(Versions{2})
	_, old := s.Apply(Delta{From: Versions{2}})
	_, form := s.Apply(Delta{Logs: logs{{6}}})
	_, long := Bytes(Delta{Logs: logs{row(1, 600)}})
	_, end := Parse(nil)
	got := []api.Errno{
		s.Revoke(0), (*Set)(nil).Revoke(0), s.Revoke(4), s.Revoke(0, 5), s.Revoke(0, row(6, 256)...), since, old, form, long, end,
	}
	if want := []api.Errno{0, 11, 10, 8, 6, 10, 9, 3, 2, 4}; !slices.Equal(got, want) {
		t.Error(got)
	}
}

// P8.1: Revoke.

func TestNew(t *testing.T) {
	is(t, New(), logs{})
	is(t, &Set{}, logs{})
}

func TestRevoke(t *testing.T) {
	for _, seed := range seeds {
		for _, serial := range serials {
			s := New()
			revokes(t, s, api.OK, seed, serial)
			want := logs{}
			want[seed] = []int{serial}
			is(t, s, want)
		}
	}
}

// A log is in the order in which its serials were told.
func TestRevokeOfSeveral(t *testing.T) {
	s := New()
	revokes(t, s, api.OK, 0, 9, 2, 65535)
	revokes(t, s, api.OK, 3, 1)
	revokes(t, s, api.OK, 0, 1)
	revokes(t, s, api.OK, 2, serials...)
	revokes(t, s, api.OK, 0, 8, 3)
	is(t, s, logs{{9, 2, 65535, 1, 8, 3}, nil, serials, {1}})
}

func TestRevokeOfNoSeed(t *testing.T) {
	have := logs{{5, 9}, nil, {5}, nil}
	for _, seed := range noSeeds {
		s := made(t, have)
		revokes(t, s, api.ErrRange, seed)
		revokes(t, s, api.ErrRange, seed, 1)
		revokes(t, s, api.ErrRange, seed, 5, 5)
		is(t, s, have)
	}
}

// One that is none, wherever it is told, and the others aren't revoked either.
func TestRevokeOfNoSerial(t *testing.T) {
	have := logs{{5, 9}, nil, {5}, nil}
	for _, serial := range noSerials {
		s := made(t, have)
		for _, seed := range seeds {
			revokes(t, s, api.ErrRange, seed, serial)
			revokes(t, s, api.ErrRange, seed, serial, 1, 2)
			revokes(t, s, api.ErrRange, seed, 1, serial, 2)
			revokes(t, s, api.ErrRange, seed, 1, 2, serial)
		}
		is(t, s, have)
	}
}

func TestRevokeTwice(t *testing.T) {
	have := logs{{5, 9, 7}, {1}, nil, {65535}}
	for seed, log := range have {
		for _, serial := range log {
			s := made(t, have)
			revokes(t, s, api.ErrTwice, seed, serial)
			revokes(t, s, api.ErrTwice, seed, 2, serial)
			revokes(t, s, api.ErrTwice, seed, serial, 2)
			revokes(t, s, api.ErrTwice, seed, 2, 3, serial, 4)
			is(t, s, have)
		}
	}
	for _, l := range [][]int{{2, 2}, {2, 3, 2}, {3, 2, 2, 4}, {2, 2, 2}, append(row(20, 200), 20), append(row(20, 200), 219)} {
		s := made(t, have)
		for _, seed := range seeds {
			revokes(t, s, api.ErrTwice, seed, l...)
		}
		is(t, s, have)
	}
}

// What another seed's log has is no hindrance.
func TestRevokeWhatAnotherSeedRevoked(t *testing.T) {
	s := New()
	for _, seed := range []int{2, 0, 3, 1} {
		revokes(t, s, api.OK, seed, 7, 5)
		revokes(t, s, api.ErrTwice, seed, 7)
	}
	is(t, s, logs{{7, 5}, {7, 5}, {7, 5}, {7, 5}})
}

func TestRevokeOfNone(t *testing.T) {
	have := logs{{5}, nil, row(1, 256), nil}
	s := made(t, have)
	for _, seed := range seeds {
		revokes(t, s, api.OK, seed)
		revokes(t, s, api.OK, seed, []int{}...)
	}
	is(t, s, have)
}

// A log has room for 256, however they come.
func TestRevokeOfThe257th(t *testing.T) {
	for _, seed := range seeds {
		full := logs{}
		full[seed] = row(1000, 256)
		s := New()
		for _, serial := range full[seed] {
			revokes(t, s, api.OK, seed, serial)
		}
		is(t, s, full)
		revokes(t, s, api.ErrFull, seed, 7)
		revokes(t, s, api.ErrFull, seed, 7, 8, 9)
		is(t, s, full)
		// The other logs have their own room.
		other := (seed + 1) % 4
		full[other] = row(1128, 256)
		revokes(t, s, api.ErrFull, other, row(1128, 257)...)
		revokes(t, s, api.OK, other, row(1128, 255)...)
		revokes(t, s, api.ErrFull, other, 1383, 1384)
		revokes(t, s, api.OK, other, 1383)
		revokes(t, s, api.ErrFull, other, 1384)
		is(t, s, full)
	}
}

func TestRevokeOfMoreThanThereAre(t *testing.T) {
	s := New()
	revokes(t, s, api.ErrFull, 0, row(1, 65535)...)
	revokes(t, s, api.ErrTwice, 0, append(row(1, 65535), 1)...)
	revokes(t, s, api.ErrRange, 0, row(1, 65536)...)
	is(t, s, logs{})
}

// The range is told first, then that one stands twice, then that there is no room.
func TestWhichErrorRevokeTells(t *testing.T) {
	have := logs{row(1, 256), {5}, nil, nil}
	s := made(t, have)
	revokes(t, s, api.ErrRange, 0, 1, 1000, 0)
	revokes(t, s, api.ErrRange, 0, 1, 0)
	revokes(t, s, api.ErrRange, 0, 1000, 65536)
	revokes(t, s, api.ErrRange, 4, row(1, 300)...)
	revokes(t, s, api.ErrRange, -1, 5, 5)
	revokes(t, s, api.ErrRange, 2, append(row(1, 300), 0)...)
	revokes(t, s, api.ErrRange, 1, 6, 6, 0)
	revokes(t, s, api.ErrTwice, 0, 1000, 256)
	revokes(t, s, api.ErrTwice, 0, 1)
	revokes(t, s, api.ErrTwice, 0, 1000, 1000)
	revokes(t, s, api.ErrTwice, 1, row(1, 300)...)
	revokes(t, s, api.ErrTwice, 2, append(row(1, 300), 300)...)
	revokes(t, s, api.ErrFull, 0, 1000, 1001)
	is(t, s, have)
}

// P8.1: what is asked of a set.

func TestHas(t *testing.T) {
	s := made(t, logs{{1, 9}, {65535}, row(300, 50), {9, 256}})
	for serial := -3; serial < 65540; serial++ {
		want := serial == 1 || serial == 9 || serial == 256 || serial == 65535 || serial >= 300 && serial < 350
		if s.Has(serial) != want {
			t.Errorf("%d: %v", serial, s.Has(serial))
		}
	}
}

func TestVersions(t *testing.T) {
	s := New()
	for i, seed := range []int{1, 1, 3, 0, 1, 3} {
		revokes(t, s, api.OK, seed, 10+i, 20+i)
	}
	if s.Versions() != (Versions{2, 6, 0, 4}) {
		t.Error(s.Versions())
	}
}

func TestLogOfNoSeed(t *testing.T) {
	s := made(t, logs{{5, 9}, {1}, {5}, {2}})
	for _, seed := range noSeeds {
		if log := s.Log(seed); len(log) != 0 {
			t.Errorf("%d: %v", seed, log)
		}
	}
}

func TestAll(t *testing.T) {
	for _, c := range []struct {
		have logs
		want []int
	}{
		{logs{}, nil},
		{logs{{7}, {7}, {7}, {7}}, []int{7}},
		{logs{nil, {65535, 1, 256}, nil, nil}, []int{1, 256, 65535}},
		{logs{{9, 3}, {4, 9}, {3, 1}, {5}}, []int{1, 3, 4, 5, 9}},
		{logs{{4}, {3}, {2}, {1}}, []int{1, 2, 3, 4}},
		{logs{row(201, 256), row(1, 256), row(101, 256), row(1, 256)}, row(1, 456)},
	} {
		if got := made(t, c.have).All(); !slices.Equal(got, c.want) {
			t.Errorf("%v: %v", c.have, got)
		}
	}
}

// Prints as another program works them out.
func TestKnownPrints(t *testing.T) {
	for _, c := range []struct {
		have logs
		want string
	}{
		{logs{}, "af5570f5a1810b7af78caf4bc70a660f0df51e42baf91d4de5b2328de0e83dfc"},
		{logs{nil, {7}, nil, nil}, "901a4d9259a05cfd4274f1a5517a92c94571162ed4a47aafb7a206d08e44ade2"},
		{logs{{5, 65535}, {7}, nil, {258, 5}}, "5d65bf8600ff23f37909cb19ae3ad0cfe009e85fb3c3ff0d44b06b5a319a16c3"},
	} {
		if got := made(t, c.have).Print(); hex.EncodeToString(got[:]) != c.want {
			t.Errorf("%v: %x", c.have, got)
		}
	}
}

func TestUnlikeSetsHaveUnlikePrints(t *testing.T) {
	prints := map[[32]byte]logs{}
	for _, l := range []logs{
		{}, {{7}}, {nil, {7}}, {nil, nil, {7}}, {nil, nil, nil, {7}}, {{7, 5}}, {{5, 7}}, {{5}, {7}}, {{7}, {5}}, {{1}}, {{256}}, {{1, 256}},
		{nil, {1, 7}}, {{1}, {7}}, {row(1, 255)}, {row(1, 256)}, {row(1, 255), {256}}, {row(1, 256), row(1, 256), row(1, 256), row(1, 256)},
	} {
		p := made(t, l).Print()
		if other, there := prints[p]; there {
			t.Errorf("%v and %v have one print", l, other)
		}
		prints[p] = l
	}
}

// P8.1: Copy.

func TestCopy(t *testing.T) {
	for _, have := range []logs{{}, {{5, 9}, nil, {5}, nil}, {row(1, 256), row(2, 256), row(3, 256), row(4, 256)}} {
		s := made(t, have)
		c := s.Copy()
		if c == s {
			t.Error("the copy is the set")
		}
		is(t, c, have)
		is(t, c.Copy(), have)
	}
}

// goTheirWays has two sets of the logs 5 9, nothing, 5, nothing told of others.
func goTheirWays(t *testing.T, one, two *Set) {
	t.Helper()
	revokes(t, one, api.OK, 0, 1)
	revokes(t, two, api.OK, 0, 2)
	revokes(t, one, api.OK, 1, 3, 4)
	revokes(t, two, api.OK, 0, 6)
	if n, e := two.Apply(Delta{Versions{2: 1}, logs{nil, {8}, {7}, nil}}); n != 2 || e != api.OK {
		t.Error(n, e)
	}
	revokes(t, one, api.OK, 0, 10)
	is(t, one, logs{{5, 9, 1, 10}, {3, 4}, {5}, nil})
	is(t, two, logs{{5, 9, 2, 6}, {8}, {5, 7}, nil})
}

func TestACopyGoesItsOwnWay(t *testing.T) {
	have := logs{{5, 9}, nil, {5}, nil}
	s := made(t, have)
	goTheirWays(t, s, s.Copy())
	s = made(t, have)
	goTheirWays(t, s.Copy(), s)
	s = New()
	c := s.Copy()
	revokes(t, s, api.OK, 0, 1)
	revokes(t, c, api.OK, 0, 2)
	is(t, s, logs{{1}})
	is(t, c, logs{{2}})
}

// So does a set that is copied by value.
func TestCopiedByValue(t *testing.T) {
	have := logs{{5, 9}, nil, {5}, nil}
	s := made(t, have)
	c := *s
	goTheirWays(t, s, &c)
	s = made(t, have)
	c = *s
	goTheirWays(t, &c, s)
	for _, n := range []int{1, 3, 7, 100} {
		s = New()
		for _, serial := range row(1, n) {
			revokes(t, s, api.OK, 3, serial)
		}
		c = *s
		revokes(t, s, api.OK, 3, 1000)
		revokes(t, &c, api.OK, 3, 2000)
		is(t, s, logs{3: append(row(1, n), 1000)})
		is(t, &c, logs{3: append(row(1, n), 2000)})
	}
}

// P8.4: what is revoked stays so, whatever comes.

func TestWhatIsRevokedStaysSo(t *testing.T) {
	draws := rand.New(rand.NewSource(81))
	draw := func(n int) []int {
		var out []int
		for range draws.Intn(n) {
			out = append(out, draws.Intn(13)-1)
		}
		return out
	}
	for range 200 {
		s := New()
		var want logs
		for range 60 {
			before := copied(want)
			if draws.Intn(2) == 0 {
				seed, l := draws.Intn(6)-1, draw(4)
				e := wantRevoke(want, seed, l)
				revokes(t, s, e, seed, l...)
				if e == api.OK {
					want[seed] = append(want[seed], l...)
				}
			} else {
				d := Delta{Logs: logs{draw(4), draw(2), draw(2), draw(2)}}
				for seed := range d.From {
					d.From[seed] = draws.Intn(len(want[seed]) + 1)
				}
				want = applies(t, s, want, d)
			}
			for seed, log := range before {
				if !slices.Equal(s.Log(seed)[:len(log)], log) {
					t.Errorf("%v is %v", log, s.Log(seed))
				}
			}
		}
		is(t, s, want)
	}
}

// wantRevoke is what Revoke has to answer.
func wantRevoke(l logs, seed int, serials []int) api.Errno {
	twice := false
	for i, serial := range serials {
		if serial < 1 || serial > 65535 {
			return api.ErrRange
		}
		if seed >= 0 && seed <= 3 {
			twice = twice || slices.Contains(l[seed], serial) || slices.Contains(serials[:i], serial)
		}
	}
	switch {
	case seed < 0 || seed > 3:
		return api.ErrRange
	case twice:
		return api.ErrTwice
	case len(l[seed])+len(serials) > 256:
		return api.ErrFull
	}
	return api.OK
}

// P8.4: a nil set.

func TestNilSet(t *testing.T) {
	var s *Set
	for _, seed := range slices.Concat(seeds, noSeeds) {
		revokes(t, s, api.ErrState, seed)
		for _, serial := range slices.Concat(serials, noSerials) {
			revokes(t, s, api.ErrState, seed, serial, serial)
		}
		if s.Log(seed) != nil {
			t.Error(seed, s.Log(seed))
		}
	}
	for _, serial := range slices.Concat(serials, noSerials) {
		if s.Has(serial) {
			t.Error(serial)
		}
	}
	if s.Versions() != (Versions{}) || s.All() != nil || s.Copy() != nil {
		t.Error(s.Versions(), s.All(), s.Copy())
	}
	for _, v := range []Versions{{}, {1}, {-1}, {math.MaxInt, math.MinInt}} {
		if d, e := s.Since(v); e != api.ErrState || !reflect.DeepEqual(d, Delta{}) {
			t.Error(v, d, e)
		}
		for _, l := range []logs{{}, {{7}}, {{0}}, {{7, 7}}, {row(1, 300)}} {
			if n, e := s.Apply(Delta{v, l}); n != 0 || e != api.ErrState {
				t.Error(v, l, n, e)
			}
		}
	}
	if s.Print() != New().Print() || s.Print() != rightPrint(logs{}) {
		t.Errorf("%x", s.Print())
	}
}

// What is handed in or handed out is neither kept, nor changed, nor shared.

// scribble changes a list, and what there is behind it.
func scribble(l []int) {
	l = l[:cap(l)]
	for i := range l {
		l[i] = l[i]*7 + 4
	}
}

func TestWhatRevokeIsHandedIsNotKept(t *testing.T) {
	s := New()
	in := append(make([]int, 0, 9), 5, 9)
	before := slices.Clone(in[:cap(in)])
	revokes(t, s, api.OK, 1, in...)
	revokes(t, s, api.OK, 1, 7)
	revokes(t, s, api.ErrTwice, 1, in...)
	if !slices.Equal(in[:cap(in)], before) {
		t.Error("what was handed in is changed")
	}
	scribble(in)
	is(t, s, logs{1: {5, 9, 7}})
}

func TestWhatASetHandsOutIsNotShared(t *testing.T) {
	have := logs{{5, 9, 2}, {1}, nil, row(1, 256)}
	s := made(t, have)
	d, e := s.Since(Versions{1, 0, 0, 7})
	if e != api.OK {
		t.Fatal(e)
	}
	first := s.Log(0)
	for seed := range have {
		scribble(s.Log(seed))
		scribble(d.Logs[seed])
		_ = append(s.Log(seed), 77)
	}
	scribble(s.All())
	revokes(t, s, api.OK, 0, 4)
	have[0] = []int{5, 9, 2, 4}
	is(t, s, have)
	if !slices.Equal(first, []int{5, 9, 2}) {
		t.Error("what was handed out is changed")
	}
}

func BenchmarkPrint(b *testing.B) {
	s := New()
	for seed := range 4 {
		s.Revoke(seed, row(1, 256)...)
	}
	for b.Loop() {
		s.Print()
	}
}
