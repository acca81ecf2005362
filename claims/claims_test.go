package claims

import (
	"bytes"
	"cmp"
	"encoding/binary"
	"encoding/hex"
	"fmt"
	"math"
	"math/rand"
	"slices"
	"testing"

	"vigil/api"
	"vigil/wire"
)

// The numbers of each of the four at the ends of its limits and within them, and
// those beside and beyond.
var (
	rightIds      = []int{1, 2, 127, 128, 255, 256, 258, 32767, 32768, 65534, 65535}
	wrongIds      = []int{0, -1, -2, -65535, 65536, 65537, 131071, 1 << 30, 1<<32 + 1, math.MinInt, math.MaxInt}
	rightMasks    = []int{0, 1, 2, 3, 127, 128, 129, 254, 255}
	wrongMasks    = []int{-1, -2, -128, -255, -256, 256, 257, 511, 1<<32 + 1, math.MinInt, math.MaxInt}
	rightExpiries = []int{0, 1, 2, 255, 256, 65535, 65536, 1<<24 - 1, 1 << 24, 1<<30 - 1, 1 << 30}
	wrongExpiries = []int{-1, -2, -1 << 30, 1<<30 + 1, 1<<30 + 2, 1 << 31, 1<<32 - 1, 1 << 32, 1<<32 + 1, math.MinInt, math.MaxInt}
)

// far is numbers about all the limits, and about those of an int.
var far = []int{
	math.MinInt, math.MinInt + 1, -1 << 32, -65536, -256, -255, -9, -8, -7, -2, -1, 0, 1, 2, 6, 7, 8, 9, 31, 32, 62, 63, 64, 65, 127, 128,
	254, 255, 256, 257, 65535, 65536, 1<<30 - 1, 1 << 30, 1<<30 + 1, 1<<32 - 1, 1 << 32, math.MaxInt - 1, math.MaxInt,
}

// right is claims of which each number is at or within its limits.
func right() []Claims {
	var out []Claims
	for _, id := range rightIds {
		for _, mask := range rightMasks {
			for _, expiry := range rightExpiries {
				for _, serial := range rightIds {
					out = append(out, Claims{id, mask, expiry, serial})
				}
			}
		}
	}
	return out
}

// wrong is claims of which one number, or more, isn't within its limits.
func wrong() []Claims {
	var out []Claims
	for _, c := range []Claims{{1, 0, 0, 1}, {258, 3, 5, 7}, {65535, 255, 1 << 30, 65535}} {
		for i := range wrongIds {
			id, mask, expiry, serial := wrongIds[i], wrongMasks[i], wrongExpiries[i], wrongIds[len(wrongIds)-1-i]
			out = append(out,
				Claims{id, c.Roles, c.Expiry, c.Serial}, Claims{c.Id, mask, c.Expiry, c.Serial},
				Claims{c.Id, c.Roles, expiry, c.Serial}, Claims{c.Id, c.Roles, c.Expiry, serial},
				Claims{id, mask, c.Expiry, c.Serial}, Claims{c.Id, c.Roles, expiry, serial}, Claims{id, mask, expiry, serial})
		}
	}
	return append(out, Claims{})
}

// chance is claims by a fixed row of draws, so that each run has the same ones.
func chance(n int) []Claims {
	r := rand.New(rand.NewSource(5))
	out := make([]Claims, n)
	for i := range out {
		out[i] = Claims{1 + r.Intn(65535), r.Intn(256), r.Intn(1<<30 + 1), 1 + r.Intn(65535)}
	}
	return out
}

// rightBytes is the bytes of claims, by the library's own means.
func rightBytes(c Claims) []byte {
	out := binary.BigEndian.AppendUint16(nil, uint16(c.Id))
	out = append(out, byte(c.Roles))
	out = binary.BigEndian.AppendUint32(out, uint32(c.Expiry))
	return binary.BigEndian.AppendUint16(out, uint16(c.Serial))
}

// rightParse is the claims of nine bytes, and whether they are right ones.
func rightParse(b []byte) (Claims, bool) {
	c := Claims{
		int(binary.BigEndian.Uint16(b)), int(b[2]),
		int(binary.BigEndian.Uint32(b[3:])), int(binary.BigEndian.Uint16(b[7:])),
	}
	return c, c.Id != 0 && c.Serial != 0 && c.Expiry <= 1<<30
}

// wrongBytes is nine bytes each that are no claims.
func wrongBytes() [][]byte {
	var out [][]byte
	for _, c := range []Claims{
		{0, 0, 0, 1}, {1, 0, 0, 0}, {0, 0, 0, 0}, {0, 255, 1 << 30, 65535}, {65535, 255, 1 << 30, 0},
		{1, 0, 1<<30 + 1, 1}, {1, 0, 1<<30 + 256, 1}, {1, 0, 1 << 31, 1}, {1, 0, 1<<32 - 1, 1}, {65535, 255, 1<<32 - 1, 65535},
	} {
		out = append(out, rightBytes(c))
	}
	return out
}

// reads fails unless Read answers this, and leaves the reader so.
func reads(t *testing.T, r *wire.Reader, c Claims, e api.Errno, err api.Errno, left int, what ...any) {
	t.Helper()
	if got, f := Read(r); got != c || f != e {
		t.Errorf("%v: %v, %d, want %v, %d", what, got, f, c, e)
	}
	if r.Err() != err || r.Left() != left {
		t.Errorf("%v: behind it error %d, %d left, want %d, %d", what, r.Err(), r.Left(), err, left)
	}
}

// parses fails unless Parse answers this.
func parses(t *testing.T, b []byte, c Claims, e api.Errno) {
	t.Helper()
	if got, f := Parse(b); got != c || f != e {
		t.Errorf("%x: %v, %d, want %v, %d", b, got, f, c, e)
	}
}

func TestTheNumbers(t *testing.T) {
	if Size != 9 {
		t.Error("the size")
	}
	_, e := Mask(8)
	_, f := Parse(make([]byte, 9))
	_, g := Parse(nil)
	if Check(Claims{}) != 10 || e != 10 || f != 3 || g != 4 || Check(Claims{1, 0, 0, 1}) != 0 {
		t.Error(Check(Claims{}), e, f, g)
	}
}

// P5.1: Check and Bytes.

func TestRightClaims(t *testing.T) {
	for _, c := range right() {
		if e := Check(c); e != api.OK {
			t.Errorf("%v: %d", c, e)
		}
		if b, e := Bytes(c); e != api.OK || !bytes.Equal(b, rightBytes(c)) {
			t.Errorf("%v: %x, %d", c, b, e)
		}
	}
}

func TestWrongClaims(t *testing.T) {
	for _, c := range wrong() {
		if e := Check(c); e != api.ErrRange {
			t.Errorf("%v: %d", c, e)
		}
		if b, e := Bytes(c); e != api.ErrRange || b != nil {
			t.Errorf("%v: %x, %d", c, b, e)
		}
	}
}

func TestCheckAtEachLimit(t *testing.T) {
	for _, c := range []struct {
		c    Claims
		want api.Errno
	}{
		{Claims{0, 0, 0, 1}, api.ErrRange}, {Claims{1, 0, 0, 1}, api.OK},
		{Claims{65535, 0, 0, 1}, api.OK}, {Claims{65536, 0, 0, 1}, api.ErrRange},
		{Claims{1, -1, 0, 1}, api.ErrRange}, {Claims{1, 255, 0, 1}, api.OK}, {Claims{1, 256, 0, 1}, api.ErrRange},
		{Claims{1, 0, -1, 1}, api.ErrRange}, {Claims{1, 0, 1 << 30, 1}, api.OK}, {Claims{1, 0, 1<<30 + 1, 1}, api.ErrRange},
		{Claims{1, 0, 0, 0}, api.ErrRange}, {Claims{1, 0, 0, -1}, api.ErrRange},
		{Claims{1, 0, 0, 65535}, api.OK}, {Claims{1, 0, 0, 65536}, api.ErrRange},
	} {
		if e := Check(c.c); e != c.want {
			t.Errorf("%v: %d, want %d", c.c, e, c.want)
		}
	}
}

func TestTheDocumentsExample(t *testing.T) {
	c := Claims{Id: 258, Roles: 3, Expiry: 5, Serial: 7}
	b, e := Bytes(c)
	if hex.EncodeToString(b) != "010203000000050007" || e != api.OK {
		t.Errorf("%x, %d", b, e)
	}
	parses(t, []byte{1, 2, 3, 0, 0, 0, 5, 0, 7}, c, api.OK)
}

// P5.1: Read.

func TestReadBehindAndAheadOfOtherFields(t *testing.T) {
	c, d := Claims{258, 3, 5, 7}, Claims{65535, 255, 1 << 30, 1}
	var w wire.Writer
	w.Number(wire.Two, 515).Bytes([]byte("ahead"))
	b, _ := w.Out()
	r := wire.New(slices.Concat(b, rightBytes(c), rightBytes(d), []byte{9, 8}))
	if r.Number(wire.Two) != 515 || string(r.Bytes(5)) != "ahead" {
		t.Fatal("the fields ahead")
	}
	reads(t, r, c, api.OK, api.OK, 11, "the first ones")
	reads(t, r, d, api.OK, api.OK, 2, "the second ones")
	if r.Number(wire.Two) != 0x0908 || r.End() != api.OK {
		t.Error("the field behind")
	}
	reads(t, r, Claims{}, api.ErrEnd, api.ErrEnd, 0, "at the end")
}

func TestReadOfAReaderWithAnError(t *testing.T) {
	b := rightBytes(Claims{258, 3, 5, 7})
	for _, c := range []struct {
		r *wire.Reader
		e api.Errno
	}{
		{spoilt(b, func(r *wire.Reader) { r.Get(9) }), api.ErrKind},
		{spoilt(b, func(r *wire.Reader) { r.Number(wire.Some) }), api.ErrKind},
		{spoilt(append([]byte{0, 2, 1, 1}, b...), func(r *wire.Reader) { r.Bytes(1) }), api.ErrForm},
		{spoilt(b, func(r *wire.Reader) { r.Get(wire.Eight); r.Get(wire.Two) }), api.ErrEnd},
		{wire.New(append(b, make([]byte, 1016)...)), api.ErrLong},
	} {
		if c.r.Err() != c.e {
			t.Fatalf("the reader has %d, want %d", c.r.Err(), c.e)
		}
		reads(t, c.r, Claims{}, c.e, c.e, 0, "behind", c.e)
		reads(t, c.r, Claims{}, c.e, c.e, 0, "and again", c.e)
	}
}

func spoilt(b []byte, by func(*wire.Reader)) *wire.Reader {
	r := wire.New(b)
	by(r)
	return r
}

// What is missing goes before what isn't right: there are no four fields to look at.
func TestBytesAreMissing(t *testing.T) {
	whole := append(wrongBytes(), rightBytes(Claims{258, 3, 5, 7}), rightBytes(Claims{65535, 255, 1 << 30, 65535}))
	for _, b := range whole {
		for n := range Size {
			parses(t, b[:n], Claims{}, api.ErrEnd)
			reads(t, wire.New(b[:n]), Claims{}, api.ErrEnd, api.ErrEnd, 0, n)
			r := wire.New(append([]byte{7}, b[:n]...))
			r.Get(wire.One)
			reads(t, r, Claims{}, api.ErrEnd, api.ErrEnd, 0, "behind a field", n)
		}
	}
	parses(t, nil, Claims{}, api.ErrEnd)
	reads(t, wire.New(nil), Claims{}, api.ErrEnd, api.ErrEnd, 0, "none")
	reads(t, new(wire.Reader), Claims{}, api.ErrEnd, api.ErrEnd, 0, "the zero reader")
}

// The reader itself has no error by fields that are there: it may be read on.
func TestFieldsThatAreNoClaims(t *testing.T) {
	c := Claims{258, 3, 5, 7}
	for _, b := range wrongBytes() {
		parses(t, b, Claims{}, api.ErrForm)
		r := wire.New(slices.Concat(b, rightBytes(c), []byte{4}))
		reads(t, r, Claims{}, api.ErrForm, api.OK, 10, hex.EncodeToString(b))
		reads(t, r, c, api.OK, api.OK, 1, "behind", hex.EncodeToString(b))
	}
}

func TestReadOfNil(t *testing.T) {
	reads(t, nil, Claims{}, api.ErrState, api.ErrState, 0, "nil")
}

// P5.1: Parse.

func TestParseOfNineBytes(t *testing.T) {
	for _, c := range right() {
		parses(t, rightBytes(c), c, api.OK)
	}
}

func TestParseOfMoreBytes(t *testing.T) {
	whole := append(wrongBytes(), rightBytes(Claims{258, 3, 5, 7}))
	for _, b := range whole {
		for _, n := range []int{1, 2, 8, 9, 18, 512, 1014, 1015} {
			parses(t, append(slices.Clip(b), make([]byte, n)...), Claims{}, api.ErrForm)
		}
		for _, n := range []int{1016, 1017, 1 << 16} {
			parses(t, append(slices.Clip(b), make([]byte, n)...), Claims{}, api.ErrLong)
		}
	}
}

// P5.2: Expired.

func TestExpired(t *testing.T) {
	for _, expiry := range append(slices.Clone(rightExpiries), 300) {
		c := Claims{258, 3, expiry, 7}
		for _, tick := range append(slices.Clone(far), expiry-2, expiry-1, expiry, expiry+1, expiry+2) {
			if got := c.Expired(tick); got == (tick < expiry) {
				t.Errorf("expiry %d, tick %d: %v", expiry, tick, got)
			}
		}
	}
	if !(Claims{}).Expired(0) || (Claims{}).Expired(-1) {
		t.Error("of an expiry of 0")
	}
}

// P5.2: Has, Covers, Mask and Roles.

// noRoles is numbers that are no roles, some of which a shift would take for one.
var noRoles = []int{-1, -2, -8, -64, 8, 9, 15, 16, 31, 32, 62, 63, 64, 65, 256, 264, 1 << 32, 1<<32 + 1, math.MinInt, math.MinInt + 1, math.MaxInt}

func TestHas(t *testing.T) {
	for mask := range 256 {
		c := Claims{258, mask, 5, 7}
		if !c.Has() {
			t.Errorf("mask %d: no role", mask)
		}
		for other := range 256 {
			if got, want := c.Has(rightRoles(other)...), mask&other == other; got != want {
				t.Errorf("mask %d, roles %v: %v", mask, rightRoles(other), got)
			}
		}
		for role := range 8 {
			has := mask>>role&1 == 1
			if c.Has(role) != has || c.Has(role, role) != has || c.Has(role, role, role) != has {
				t.Errorf("mask %d, role %d", mask, role)
			}
		}
	}
}

func TestHasOfNoRole(t *testing.T) {
	for _, mask := range append(slices.Clone(rightMasks), wrongMasks...) {
		c := Claims{258, mask, 5, 7}
		for _, no := range noRoles {
			if c.Has(no) || c.Has(no, no) || c.Has(0, no) || c.Has(no, 0) || c.Has(0, 1, 2, 3, 4, 5, 6, 7, no) {
				t.Errorf("mask %d has role %d", mask, no)
			}
		}
	}
}

// Has looks at the mask alone, and asks nothing of the other three.
func TestHasOfOtherNumbers(t *testing.T) {
	for _, n := range far {
		c := Claims{Id: n, Roles: 5, Expiry: n, Serial: n}
		if !c.Has(0, 2) || c.Has(1) || c.Has(0, 1, 2) {
			t.Errorf("%v", c)
		}
	}
}

func TestCovers(t *testing.T) {
	for mask := range 256 {
		for other := range 256 {
			want := true
			for _, role := range rightRoles(other) {
				want = want && slices.Contains(rightRoles(mask), role)
			}
			if got := Covers(mask, other); got != want {
				t.Errorf("%d, %d: %v", mask, other, got)
			}
		}
	}
	if !Covers(7, 5) || Covers(5, 7) || !Covers(0, 0) || Covers(0, 1) || Covers(1, 2) {
		t.Error("the small ones")
	}
}

// Numbers that are no masks have bits too.
func TestCoversOfOtherNumbers(t *testing.T) {
	for _, a := range far {
		if !Covers(a, a) || !Covers(-1, a) || !Covers(a, 0) || Covers(0, a) != (a == 0) || Covers(a, -1) != (a == -1) {
			t.Errorf("%d", a)
		}
		for _, b := range far {
			if got, want := Covers(a, b), b&^a == 0; got != want {
				t.Errorf("%d, %d: %v", a, b, got)
			}
		}
	}
}

func TestMask(t *testing.T) {
	for mask := range 256 {
		roles := rightRoles(mask)
		back := slices.Clone(roles)
		slices.Reverse(back)
		for _, l := range [][]int{roles, back, slices.Concat(roles, roles), slices.Concat(back, roles, back)} {
			if got, e := Mask(l...); got != mask || e != api.OK {
				t.Errorf("%v: %d, %d, want %d", l, got, e, mask)
			}
		}
	}
	if got, e := Mask(); got != 0 || e != api.OK {
		t.Errorf("of none: %d, %d", got, e)
	}
}

func TestMaskOfNoRole(t *testing.T) {
	for _, no := range noRoles {
		for _, l := range [][]int{{no}, {no, no}, {0, no}, {no, 0}, {7, 7, no}, {0, 1, 2, 3, 4, 5, 6, 7, no}, {no, 0, 1, 2, 3, 4, 5, 6, 7}} {
			if got, e := Mask(l...); got != 0 || e != api.ErrRange {
				t.Errorf("%v: %d, %d", l, got, e)
			}
		}
	}
}

// rightRoles is the roles of a mask, by dividing it.
func rightRoles(mask int) []int {
	out := []int{}
	for role := 0; mask > 0; role, mask = role+1, mask/2 {
		if mask%2 == 1 {
			out = append(out, role)
		}
	}
	return out
}

func TestRoles(t *testing.T) {
	for mask := range 256 {
		if got := Roles(mask); !slices.Equal(got, rightRoles(mask)) {
			t.Errorf("%d: %v", mask, got)
		}
	}
	for _, mask := range wrongMasks {
		if got := Roles(mask); len(got) != 0 {
			t.Errorf("%d: %v", mask, got)
		}
	}
}

// P5.2: Compare and Text.

// ordered is claims of which each is ahead of all behind it: each of the four in its
// turn, against those that come later in it.
func ordered() []Claims {
	return []Claims{
		{9, 9, 9, math.MinInt}, {9, 9, 9, -1}, {9, 9, 9, 0},
		{math.MinInt, 9, 9, 1}, {0, 9, 9, 1}, {1, 0, 0, 1}, {1, 1, 0, 1}, {1, 255, 0, 1}, {1, 0, 1, 1}, {1, 1, 1, 1},
		{1, 255, 1 << 30, 1}, {2, math.MinInt, 0, 1}, {2, -1, 0, 1}, {2, 0, 0, 1}, {2, 0, 1, 1}, {2, math.MaxInt, 1, 1}, {2, math.MinInt, math.MaxInt, 1},
		{65535, 0, 0, 1}, {65535, 255, 1 << 30, 1}, {1, 0, 0, 2}, {2, 0, 0, 2}, {1, 0, 0, 65535}, {1, 0, math.MinInt, math.MaxInt}, {1, 0, 0, math.MaxInt},
		{1, 0, math.MaxInt, math.MaxInt}, {math.MaxInt, math.MinInt, math.MinInt, math.MaxInt}, {math.MaxInt, math.MaxInt, math.MaxInt, math.MaxInt},
	}
}

func TestCompare(t *testing.T) {
	l := ordered()
	for i, a := range l {
		for j, b := range l {
			if got := Compare(a, b); cmp.Compare(got, 0) != cmp.Compare(i, j) {
				t.Errorf("%v, %v: %d", a, b, got)
			}
		}
	}
}

func TestCompareByEachOfTheFour(t *testing.T) {
	base := Claims{300, 100, 5000, 40}
	for _, n := range []int{1, 2, 255} {
		for _, more := range []Claims{
			{300, 100, 5000, 40 + n}, {300 + n, 100, 5000, 40}, {300, 100, 5000 + n, 40}, {300, 100 + n, 5000, 40},
			{1, 0, 0, 40 + n}, {300 + n, 0, 0, 40}, {300, 0, 5000 + n, 40},
		} {
			if Compare(base, more) >= 0 || Compare(more, base) <= 0 {
				t.Errorf("%v and %v: %d, %d", base, more, Compare(base, more), Compare(more, base))
			}
		}
	}
}

// Compare says 0 of the same claims alone, and one order of any three.
func TestCompareIsAnOrder(t *testing.T) {
	l := chance(60)
	for _, c := range l[:20] {
		l = append(l, c, Claims{c.Id, c.Roles, c.Expiry, l[0].Serial}, Claims{l[1].Id, c.Roles, c.Expiry, l[0].Serial})
	}
	for _, a := range l {
		for _, b := range l {
			if (Compare(a, b) == 0) != (a == b) || (Compare(a, b) < 0) != (Compare(b, a) > 0) {
				t.Errorf("%v, %v", a, b)
			}
		}
	}
	slices.SortFunc(l, Compare)
	want := func(c Claims) string {
		return fmt.Sprintf("%05d %05d %010d %03d", c.Serial, c.Id, c.Expiry, c.Roles)
	}
	if !slices.IsSortedFunc(l, func(a, b Claims) int { return cmp.Compare(want(a), want(b)) }) {
		t.Errorf("not in order: %v", l)
	}
}

func TestText(t *testing.T) {
	for _, c := range []struct {
		c    Claims
		want string
	}{
		{Claims{9, 5, 300, 2}, "9 5 300 2"}, {Claims{258, 3, 5, 7}, "258 3 5 7"},
		{Claims{65535, 255, 1 << 30, 65535}, "65535 255 1073741824 65535"}, {Claims{1, 0, 0, 1}, "1 0 0 1"}, {Claims{}, "0 0 0 0"},
		{Claims{-1, -255, -1 << 63, 1<<63 - 1}, "-1 -255 -9223372036854775808 9223372036854775807"},
	} {
		if got := Text(c.c); got != c.want {
			t.Errorf("%v: %q, want %q", c.c, got, c.want)
		}
	}
	for _, c := range append(right(), wrong()...) {
		if got, want := Text(c), fmt.Sprintf("%d %d %d %d", c.Id, c.Roles, c.Expiry, c.Serial); got != want {
			t.Errorf("%v: %q", c, got)
		}
	}
}

// P5.3: what follows.

func TestWhatIsToldIsRead(t *testing.T) {
	seen := map[string]Claims{}
	for _, c := range append(right(), chance(5000)...) {
		b, e := Bytes(c)
		if e != api.OK || len(b) != Size {
			t.Fatalf("%v: %x, %d", c, b, e)
		}
		parses(t, b, c, api.OK)
		reads(t, wire.New(b), c, api.OK, api.OK, 0, c)
		if other, ok := seen[string(b)]; ok && other != c {
			t.Errorf("%v and %v are both %x", c, other, b)
		}
		seen[string(b)] = c
	}
}

// anyBytes fails unless what is read of the bytes is told as just these bytes.
func anyBytes(t *testing.T, b []byte) {
	t.Helper()
	got, e := Parse(b)
	if len(b) != Size {
		if e == api.OK || got != (Claims{}) {
			t.Errorf("%x: %v, %d", b, got, e)
		}
		return
	}
	c, ok := rightParse(b)
	if !ok {
		parses(t, b, Claims{}, api.ErrForm)
		return
	}
	parses(t, b, c, api.OK)
	if back, e := Bytes(got); e != api.OK || !bytes.Equal(back, b) {
		t.Errorf("%x: %v is told as %x, %d", b, got, back, e)
	}
}

func TestNothingElseIsRead(t *testing.T) {
	r := rand.New(rand.NewSource(9))
	for range 20000 {
		b := make([]byte, Size)
		r.Read(b)
		if r.Intn(2) == 0 {
			b[3] &= 0x40 // mostly within the limits, and about their end
		}
		if r.Intn(8) == 0 {
			copy(b[4:], []byte{0, 0, 0})
		}
		if r.Intn(8) == 0 {
			copy(b, []byte{0, byte(r.Intn(2))})
		}
		if r.Intn(8) == 0 {
			copy(b[7:], []byte{0, byte(r.Intn(2))})
		}
		anyBytes(t, b)
	}
	for _, b := range wrongBytes() {
		anyBytes(t, b)
	}
	for n := range 40 {
		anyBytes(t, bytes.Repeat([]byte{1}, n))
	}
}

func TestAMaskHasJustItsRoles(t *testing.T) {
	for mask := range 256 {
		roles := Roles(mask)
		if back, e := Mask(roles...); back != mask || e != api.OK {
			t.Errorf("%d: %v is %d, %d", mask, roles, back, e)
		}
		c := Claims{258, mask, 5, 7}
		if !c.Has(roles...) {
			t.Errorf("%d hasn't %v", mask, roles)
		}
		for role := -3; role < 12; role++ {
			if c.Has(role) != slices.Contains(roles, role) {
				t.Errorf("%d, role %d, roles %v", mask, role, roles)
			}
		}
	}
}

// What is handed in or out is neither kept, nor changed, nor shared.

func scribble[T byte | int](l []T) {
	for i := range l[:cap(l)] {
		l[:cap(l)][i] ^= 0x5a
	}
}

func TestBytesAreNotChangedAndNotShared(t *testing.T) {
	c := Claims{258, 3, 5, 7}
	in := append(make([]byte, 0, 64), rightBytes(c)...)
	before := bytes.Clone(in[:cap(in)])
	got, _ := Parse(in)
	r := wire.New(in)
	first, _ := Read(r)
	if !bytes.Equal(in[:cap(in)], before) {
		t.Error("what was handed in is changed")
	}
	scribble(in)
	if got != c || first != c {
		t.Error("what was handed in is kept")
	}
	out, _ := Bytes(got)
	other, _ := Bytes(got)
	scribble(out)
	if again, e := Bytes(got); e != api.OK || !bytes.Equal(again, rightBytes(c)) || !bytes.Equal(other, again) {
		t.Error("what was handed out is shared")
	}
}

func TestRolesAreNotChangedAndNotShared(t *testing.T) {
	in := append(make([]int, 0, 16), 7, 0, 2, 2)
	before := slices.Clone(in[:cap(in)])
	mask, e := Mask(in...)
	has := Claims{Roles: 133}.Has(in...)
	if mask != 133 || e != api.OK || !has || !slices.Equal(in[:cap(in)], before) {
		t.Errorf("%d, %d, %v, %v", mask, e, has, in)
	}
	for mask := range 256 {
		first, second := Roles(mask), Roles(mask)
		scribble(first)
		if !slices.Equal(second, rightRoles(mask)) || !slices.Equal(Roles(mask), second) {
			t.Errorf("%d: what was handed out is shared", mask)
		}
	}
}

func TestClaimsAreNotChanged(t *testing.T) {
	for _, c := range append(chance(50), wrong()...) {
		was := c
		Check(c)
		Bytes(c)
		c.Expired(3)
		c.Has(1, 9)
		Compare(c, Claims{})
		Text(c)
		if c != was {
			t.Errorf("%v is %v", was, c)
		}
	}
}

// P1 and P2: every call ends, none panics, and the same calls answer the same.

func story(c, d Claims, b []byte, r *wire.Reader, n int) []any {
	told, e := Bytes(c)
	parsed, f := Parse(b)
	first, g := Read(r)
	second, h := Read(r)
	mask, i := Mask(n, c.Roles, d.Id)
	return []any{
		Check(c), string(told), e, parsed, f, first, g, second, h, r.Err(), r.Left(), c.Expired(n), c.Has(n), c.Has(d.Roles, n), d.Has(),
		Covers(c.Roles, n), Covers(n, d.Serial), mask, i, fmt.Sprint(Roles(n)), fmt.Sprint(Roles(c.Roles)), Compare(c, d), Compare(d, c), Text(c),
	}
}

func TestTheSameCallsAnswerTheSame(t *testing.T) {
	all := append(wrong(), chance(20)...)
	for i, c := range all {
		d := all[len(all)-1-i]
		for _, n := range far {
			for _, b := range [][]byte{nil, {0}, rightBytes(c), rightBytes(d)[:8], append(rightBytes(d), rightBytes(c)...), make([]byte, 1024), make([]byte, 1025)} {
				if !slices.Equal(story(c, d, b, wire.New(b), n), story(c, d, b, wire.New(b), n)) {
					t.Errorf("%v, %v, %x, %d", c, d, b, n)
				}
			}
			if !slices.Equal(story(c, d, nil, nil, n), story(c, d, nil, nil, n)) {
				t.Errorf("%v, %v, nil, %d", c, d, n)
			}
		}
	}
}

func FuzzParse(f *testing.F) {
	f.Add([]byte{1, 2, 3, 0, 0, 0, 5, 0, 7})
	f.Add([]byte{0, 0, 3, 0, 0, 0, 5, 0, 7})
	f.Add([]byte{1, 2, 3, 0x40, 0, 0, 0, 0, 7})
	f.Add([]byte{1, 2, 3, 0x40, 0, 0, 1, 0, 7, 9})
	f.Fuzz(anyBytes)
}

func FuzzBytes(f *testing.F) {
	f.Add(258, 3, 5, 7)
	f.Add(65536, -1, 1<<30+1, 0)
	f.Fuzz(func(t *testing.T, id, mask, expiry, serial int) {
		c := Claims{id, mask, expiry, serial}
		b, e := Bytes(c)
		if e != Check(c) {
			t.Fatalf("%v: %d, %d", c, e, Check(c))
		}
		if back, ok := rightParse(rightBytes(c)); e == api.OK != (ok && back == c) {
			t.Errorf("%v: %d", c, e)
		}
		if e == api.OK {
			parses(t, b, c, api.OK)
		}
	})
}

func BenchmarkBytesAndParse(b *testing.B) {
	c := Claims{258, 3, 5, 7}
	for b.Loop() {
		out, _ := Bytes(c)
		Parse(out)
	}
}
