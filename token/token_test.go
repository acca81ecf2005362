package token

import (
	"bytes"
	"crypto/hmac"
	"crypto/sha256"
	"encoding/binary"
	"encoding/hex"
	"math"
	"math/rand"
	"slices"
	"testing"

	"vigil/api"
	"vigil/claims"
	"vigil/mac"
)

// some is so many bytes, no two neighbours of which are the same.
func some(n int) []byte {
	b := make([]byte, n)
	for i := range b {
		b[i] = byte(i*37 + i/64*11 + 5)
	}
	return b
}

// rightKey is the derived key, by the library's own means.
func rightKey(key []byte, label string, parts ...[]byte) [32]byte {
	h := hmac.New(sha256.New, key)
	for _, p := range append([][]byte{[]byte(label)}, parts...) {
		h.Write(binary.BigEndian.AppendUint32(nil, uint32(len(p))))
		h.Write(p)
	}
	return [32]byte(h.Sum(nil))
}

// claimsBytes is the bytes of claims, by the library's own means.
func claimsBytes(c claims.Claims) []byte {
	out := binary.BigEndian.AppendUint16(nil, uint16(c.Id))
	out = append(out, byte(c.Roles))
	out = binary.BigEndian.AppendUint32(out, uint32(c.Expiry))
	return binary.BigEndian.AppendUint16(out, uint16(c.Serial))
}

// rightToken is the token of claims under the master key's bytes.
func rightToken(master []byte, c claims.Claims) Token {
	return Token{c, rightKey(master, "token", claimsBytes(c))}
}

// masters is the bytes of some keys; Make and its like take keys of any length.
func masters() [][]byte {
	return [][]byte{nil, {0}, []byte("a"), make([]byte, 16), some(16), some(32), some(64), some(65), some(200)}
}

// right is claims at the ends of their limits and within them.
func right() []claims.Claims {
	var out []claims.Claims
	for _, id := range []int{1, 258, 65535} {
		for _, mask := range []int{0, 3, 255} {
			for _, expiry := range []int{0, 5, 1 << 30} {
				for _, serial := range []int{1, 7, 256, 65535} {
					out = append(out, claims.Claims{Id: id, Roles: mask, Expiry: expiry, Serial: serial})
				}
			}
		}
	}
	return out
}

// wrong is claims of which a number, or all of them, isn't within its limits.
func wrong() []claims.Claims {
	return []claims.Claims{
		{}, {Id: 0, Roles: 3, Expiry: 5, Serial: 7}, {Id: -1, Roles: 3, Expiry: 5, Serial: 7}, {Id: 65536, Roles: 3, Expiry: 5, Serial: 7},
		{Id: 258, Roles: -1, Expiry: 5, Serial: 7}, {Id: 258, Roles: 256, Expiry: 5, Serial: 7},
		{Id: 258, Roles: 3, Expiry: -1, Serial: 7}, {Id: 258, Roles: 3, Expiry: 1<<30 + 1, Serial: 7}, {Id: 258, Roles: 3, Expiry: 1<<32 + 5, Serial: 7},
		{Id: 258, Roles: 3, Expiry: 5, Serial: 0}, {Id: 258, Roles: 3, Expiry: 5, Serial: -1}, {Id: 258, Roles: 3, Expiry: 5, Serial: 65536},
		{Id: math.MinInt, Roles: math.MinInt, Expiry: math.MinInt, Serial: math.MinInt},
		{Id: math.MaxInt, Roles: math.MaxInt, Expiry: math.MaxInt, Serial: math.MaxInt},
	}
}

// chance is claims by a fixed row of draws, so that each run has the same ones.
func chance(n int) []claims.Claims {
	r := rand.New(rand.NewSource(6))
	out := make([]claims.Claims, n)
	for i := range out {
		out[i] = claims.Claims{Id: 1 + r.Intn(65535), Roles: r.Intn(256), Expiry: r.Intn(1<<30 + 1), Serial: 1 + r.Intn(65535)}
	}
	return out
}

// others is right claims that differ from c in one of the four.
func others(c claims.Claims) []claims.Claims {
	out := []claims.Claims{c, c, c, c, c, c, c}
	out[0].Id = c.Id%65535 + 1
	out[1].Id = c.Id ^ 0x8000
	out[2].Roles ^= 1
	out[3].Roles ^= 128
	out[4].Expiry ^= 1
	out[5].Serial = c.Serial%65535 + 1
	out[6].Serial = c.Serial ^ 0x4000
	return slices.DeleteFunc(out, func(o claims.Claims) bool { return claims.Check(o) != api.OK || o == c })
}

// lists is no part, one part, empty parts, and several parts.
func lists() [][][]byte {
	return [][][]byte{
		nil, {nil}, {nil, {}}, {[]byte("a")}, {some(55)}, {some(64)}, {some(256)}, {some(300)}, {some(65536)}, {some(1<<24 + 258)},
		{[]byte("ab"), nil}, {nil, []byte("ab")}, {[]byte("a"), []byte("b")}, {[]byte("ab")}, {[]byte("b"), []byte("a")},
		{[]byte("proof")}, {[]byte("token"), some(9)}, {some(64), some(64), nil, some(70), []byte("c")},
	}
}

func mint(t *testing.T, master []byte) *Mint {
	t.Helper()
	m, e := New(master)
	if m == nil || e != api.OK {
		t.Fatalf("%v, %d", m, e)
	}
	return m
}

func TestTheNumbers(t *testing.T) {
	if Size != 41 {
		t.Error("the size")
	}
	_, e := New(nil)
	_, f := Parse(nil)
	_, g := Parse(make([]byte, 41))
	_, h := new(Mint).Find(1)
	_, i := (*Mint)(nil).Find(1)
	j := Proves(mac.New(nil), claims.Claims{Id: 1, Serial: 1}, nil)
	_, k := Bytes(Token{})
	if e != 1 || f != 4 || g != 3 || h != 7 || i != 11 || j != 5 || k != 10 {
		t.Error(e, f, g, h, i, j, k)
	}
}

// P6.1: Make.

func TestMake(t *testing.T) {
	for _, master := range masters() {
		for _, c := range append(right(), chance(20)...) {
			if got, e := Make(mac.New(master), c); e != api.OK || got != rightToken(master, c) {
				t.Errorf("key of %d, %v: %v, %d", len(master), c, got, e)
			}
		}
	}
}

// The secret and a proof of one token, as another program works them out.
func TestAKnownToken(t *testing.T) {
	got, e := Make(mac.New([]byte("sixteen bytes 00")), claims.Claims{Id: 258, Roles: 3, Expiry: 5, Serial: 7})
	if want := "69840136a74a231e66d9d9792eef7766e61548ee7ffab537f5129bdcd6e938b8"; e != api.OK || hex.EncodeToString(got.Secret[:]) != want {
		t.Errorf("%x, %d", got.Secret, e)
	}
	p := got.Prove([]byte("hello"), []byte("x"))
	if want := "8f4c0dda65d7c31c65bb53cd8bd7045c79fac374b53969968282916038173a15"; hex.EncodeToString(p[:]) != want {
		t.Errorf("%x", p)
	}
}

func TestMakeOfNoMaster(t *testing.T) {
	for _, c := range append(right(), wrong()...) {
		if got, e := Make(nil, c); e != api.ErrArg || got != (Token{}) {
			t.Errorf("%v: %v, %d", c, got, e)
		}
	}
}

func TestMakeOfWrongClaims(t *testing.T) {
	for _, master := range masters() {
		for _, c := range wrong() {
			if got, e := Make(mac.New(master), c); e != api.ErrRange || got != (Token{}) {
				t.Errorf("key of %d, %v: %v, %d", len(master), c, got, e)
			}
		}
	}
}

func TestAZeroKeyIsAMaster(t *testing.T) {
	c := claims.Claims{Id: 258, Roles: 3, Expiry: 5, Serial: 7}
	got, e := Make(&mac.Key{}, c)
	if e != api.OK || got != rightToken(nil, c) || !Holds(&mac.Key{}, got) {
		t.Errorf("%v, %d", got, e)
	}
}

// P6.1: Holds.

func TestHolds(t *testing.T) {
	for _, master := range masters() {
		for _, c := range append(right(), chance(20)...) {
			if !Holds(mac.New(master), rightToken(master, c)) {
				t.Errorf("key of %d, %v: doesn't hold", len(master), c)
			}
		}
	}
}

func TestAnotherSecretDoesNotHold(t *testing.T) {
	c := claims.Claims{Id: 258, Roles: 3, Expiry: 5, Serial: 7}
	k := mac.New(some(16))
	for at := range 32 {
		for bit := range 8 {
			x := rightToken(some(16), c)
			x.Secret[at] ^= 1 << bit
			if Holds(k, x) {
				t.Errorf("bit %d of %d is turned: holds", bit, at)
			}
		}
	}
	if Holds(k, Token{Claims: c}) || Holds(k, rightToken(some(17), c)) || Holds(k, Token{c, rightKey(some(16), "proof", claimsBytes(c))}) {
		t.Error("holds")
	}
	// Two bytes that are turned alike must not make up for one another.
	x := rightToken(some(16), c)
	x.Secret[0], x.Secret[31] = x.Secret[0]^9, x.Secret[31]^9
	if Holds(k, x) {
		t.Error("two are turned: holds")
	}
}

func TestAnotherClaimDoesNotHold(t *testing.T) {
	k := mac.New(some(16))
	for _, c := range append(right(), chance(50)...) {
		for _, o := range others(c) {
			if Holds(k, Token{o, rightToken(some(16), c).Secret}) {
				t.Errorf("%v with the secret of %v: holds", o, c)
			}
		}
	}
}

// Numbers that aren't right but have the bytes of right ones hold no more than
// others.
func TestWrongClaimsDoNotHold(t *testing.T) {
	for _, c := range wrong() {
		if Holds(mac.New(some(16)), rightToken(some(16), c)) || Holds(mac.New(some(16)), Token{Claims: c}) {
			t.Errorf("%v: holds", c)
		}
	}
}

func TestNothingHoldsUnderNoMaster(t *testing.T) {
	for _, c := range append(right(), wrong()...) {
		for _, master := range masters() {
			if Holds(nil, rightToken(master, c)) || Holds(nil, Token{Claims: c}) {
				t.Errorf("key of %d, %v: holds", len(master), c)
			}
		}
	}
}

// P6.1: Bytes and Parse.

func TestBytes(t *testing.T) {
	for i, c := range append(right(), chance(20)...) {
		x := Token{c, [32]byte(some(32 + i)[i:])}
		want := append(claimsBytes(c), x.Secret[:]...)
		if b, e := Bytes(x); e != api.OK || !bytes.Equal(b, want) || len(b) != 41 {
			t.Errorf("%v: %x, %d", c, b, e)
		}
		if got, e := Parse(want); e != api.OK || got != x {
			t.Errorf("%x: %v, %d", want, got, e)
		}
	}
}

func TestBytesOfWrongClaims(t *testing.T) {
	for _, c := range wrong() {
		for _, x := range []Token{{Claims: c}, rightToken(some(16), c)} {
			if b, e := Bytes(x); e != api.ErrRange || b != nil {
				t.Errorf("%v: %x, %d", c, b, e)
			}
		}
	}
}

// noClaims is nine bytes each that are no claims.
func noClaims() [][]byte {
	return [][]byte{
		make([]byte, 9), {0, 0, 3, 0, 0, 0, 5, 0, 7}, {1, 2, 3, 0, 0, 0, 5, 0, 0},
		{1, 2, 3, 0x40, 0, 0, 1, 0, 7}, {1, 2, 3, 0x80, 0, 0, 0, 0, 7}, bytes.Repeat([]byte{255}, 9),
	}
}

func TestParseOfWrongClaims(t *testing.T) {
	for _, b := range noClaims() {
		if got, e := Parse(append(slices.Clip(b), some(32)...)); e != api.ErrForm || got != (Token{}) {
			t.Errorf("%x: %v, %d", b, got, e)
		}
	}
}

// Fewer bytes are that, whatever they begin with; so are more.
func TestParseOfOtherLengths(t *testing.T) {
	for _, b := range append(noClaims(), claimsBytes(claims.Claims{Id: 258, Roles: 3, Expiry: 5, Serial: 7})) {
		long := append(slices.Clip(b), some(70000)...)
		for n := range 41 {
			if got, e := Parse(long[:n:n]); e != api.ErrEnd || got != (Token{}) {
				t.Errorf("%d bytes: %v, %d", n, got, e)
			}
			if got, e := Parse(long[:n]); e != api.ErrEnd || got != (Token{}) {
				t.Errorf("%d bytes of more: %v, %d", n, got, e)
			}
		}
		for _, n := range []int{42, 43, 82, 255, 1024, 1025, 65536, 70009} {
			if got, e := Parse(long[:n]); e != api.ErrForm || got != (Token{}) {
				t.Errorf("%d bytes: %v, %d", n, got, e)
			}
		}
	}
	if got, e := Parse(nil); e != api.ErrEnd || got != (Token{}) {
		t.Errorf("nil: %v, %d", got, e)
	}
}

// Parse doesn't ask whether the token holds: nobody could tell it by the bytes.
func TestParseTakesAnySecret(t *testing.T) {
	c := claims.Claims{Id: 258, Roles: 3, Expiry: 5, Serial: 7}
	if got, e := Parse(append(claimsBytes(c), make([]byte, 32)...)); e != api.OK || got != (Token{Claims: c}) {
		t.Errorf("%v, %d", got, e)
	}
}

// P6.2: Prove and Key.

func TestProve(t *testing.T) {
	for _, secret := range [][32]byte{{}, [32]byte(some(32)), [32]byte(bytes.Repeat([]byte{255}, 32))} {
		for i, parts := range lists() {
			if got := (Token{Secret: secret}).Prove(parts...); got != rightKey(secret[:], "proof", parts...) {
				t.Errorf("parts %d: %x", i, got)
			}
		}
	}
}

// A proof is framed as in deriving, by layer 2 itself.
func TestProveIsFramedAsInDeriving(t *testing.T) {
	x := rightToken(some(16), claims.Claims{Id: 258, Roles: 3, Expiry: 5, Serial: 7})
	for i, parts := range lists() {
		got := x.Prove(parts...)
		if got != mac.Derive(x.Secret[:], "proof", parts...) || !bytes.Equal(got[:], x.Key().Derive("proof", parts...).Bytes()) {
			t.Errorf("parts %d", i)
		}
		if got == mac.Tag(x.Secret[:], parts...) || got == mac.Tag(x.Secret[:], append([][]byte{[]byte("proof")}, parts...)...) {
			t.Errorf("parts %d aren't framed", i)
		}
	}
}

// A proof is by the secret alone: the claims are in it already.
func TestProveAsksNothingOfClaims(t *testing.T) {
	for _, c := range append(wrong(), right()...) {
		x := Token{c, [32]byte(some(32))}
		if x.Prove(some(3)) != rightKey(some(32), "proof", some(3)) || !bytes.Equal(x.Key().Bytes(), some(32)) {
			t.Errorf("%v", c)
		}
	}
}

func TestPartsThatAreCutOtherwise(t *testing.T) {
	x := rightToken(some(16), claims.Claims{Id: 258, Roles: 3, Expiry: 5, Serial: 7})
	text := []byte("\x00\x00\x00\x01a\x00\x00\x00\x01b")
	proofs := map[[32]byte]string{}
	put := func(name string, parts ...[]byte) {
		p := x.Prove(parts...)
		if other, there := proofs[p]; there {
			t.Errorf("%q and %q have one proof", other, name)
		}
		proofs[p] = name
	}
	put("none")
	put("one empty", nil)
	put("two empty", nil, nil)
	put("a, b", []byte("a"), []byte("b"))
	put("b, a", []byte("b"), []byte("a"))
	put("ab", []byte("ab"))
	put("ab, empty", []byte("ab"), nil)
	put("empty, ab", nil, []byte("ab"))
	put("the label again", []byte("proof"))
	put("whole", text)
	for i := 1; i < len(text); i++ {
		put("two", text[:i], text[i:])
		for j := i + 1; j < len(text); j++ {
			put("three", text[:i], text[i:j], text[j:])
		}
	}
	if x.Prove(nil) != x.Prove([]byte{}) {
		t.Error("a nil part and an empty one are the same bytes, but have unlike proofs")
	}
}

func TestKey(t *testing.T) {
	for _, secret := range [][32]byte{{}, [32]byte(some(32)), {31: 1}} {
		k := Token{Secret: secret}.Key()
		if k == nil || !bytes.Equal(k.Bytes(), secret[:]) || k.Tag(some(9)) != mac.Tag(secret[:], some(9)) {
			t.Errorf("%x", secret)
		}
	}
}

// P6.2: Proves.

func TestProves(t *testing.T) {
	for _, master := range masters() {
		k := mac.New(master)
		for _, c := range append(right(), chance(5)...) {
			for i, parts := range [][][]byte{nil, {nil}, {some(3)}, {some(3), nil, some(70)}} {
				secret := rightToken(master, c).Secret
				tag := rightKey(secret[:], "proof", parts...)
				if e := Proves(k, c, tag[:], parts...); e != api.OK {
					t.Errorf("key of %d, %v, parts %d: %d", len(master), c, i, e)
				}
			}
		}
	}
}

func TestProvesOfOtherTags(t *testing.T) {
	k, c := mac.New(some(16)), claims.Claims{Id: 258, Roles: 3, Expiry: 5, Serial: 7}
	p := rightToken(some(16), c).Prove(some(3), some(5))
	for at := range 32 {
		for bit := range 8 {
			tag := p
			tag[at] ^= 1 << bit
			if e := Proves(k, c, tag[:], some(3), some(5)); e != api.ErrTag {
				t.Errorf("bit %d of %d is turned: %d", bit, at, e)
			}
		}
	}
	longer := append(p[:], make([]byte, 40)...)
	for n := range len(longer) + 1 {
		want := api.ErrTag
		if n == 32 {
			want = api.OK
		}
		if e := Proves(k, c, longer[:n], some(3), some(5)); e != want {
			t.Errorf("a tag of %d bytes: %d", n, e)
		}
	}
	twice := append(p[:], p[:]...)
	if Proves(k, c, twice, some(3), some(5)) != api.ErrTag || Proves(k, c, nil, some(3), some(5)) != api.ErrTag || Proves(k, c, nil) != api.ErrTag {
		t.Error("twice, or nil")
	}
}

func TestProvesOfOtherParts(t *testing.T) {
	k, c := mac.New(some(16)), claims.Claims{Id: 258, Roles: 3, Expiry: 5, Serial: 7}
	a, b := []byte("hello"), []byte("x")
	p := rightToken(some(16), c).Prove(a, b)
	for i, parts := range [][][]byte{
		nil, {nil}, {a}, {b}, {b, a}, {[]byte("hellox")}, {[]byte("hell"), []byte("ox")}, {a, b, nil}, {nil, a, b}, {a, nil, b}, {a, a, b},
		{[]byte("hellp"), b}, {a, []byte("y")}, {[]byte("proof"), a, b},
	} {
		if e := Proves(k, c, p[:], parts...); e != api.ErrTag {
			t.Errorf("parts %d: %d", i, e)
		}
	}
}

func TestProvesOfOtherClaims(t *testing.T) {
	k := mac.New(some(16))
	for _, c := range append(right(), chance(20)...) {
		p := rightToken(some(16), c).Prove(some(3))
		for _, o := range others(c) {
			if e := Proves(k, o, p[:], some(3)); e != api.ErrTag {
				t.Errorf("a proof by %v, of %v: %d", c, o, e)
			}
		}
		if Proves(mac.New(some(17)), c, p[:], some(3)) != api.ErrTag {
			t.Errorf("%v: under another master key", c)
		}
	}
}

// A token's secret, and a tag that is no proof, prove nothing.
func TestProvesOfWhatIsNoProof(t *testing.T) {
	k, c := mac.New(some(16)), claims.Claims{Id: 258, Roles: 3, Expiry: 5, Serial: 7}
	x := rightToken(some(16), c)
	bare := mac.Tag(x.Secret[:], some(3))
	other := mac.Derive(x.Secret[:], "sender", some(3))
	for _, tag := range [][32]byte{x.Secret, bare, other, {}} {
		if e := Proves(k, c, tag[:], some(3)); e != api.ErrTag {
			t.Errorf("%x: %d", tag, e)
		}
	}
}

// Which error is told: no master first, then wrong claims, then the tag.
func TestProvesOfNoMasterAndOfWrongClaims(t *testing.T) {
	for _, c := range append(right(), wrong()...) {
		p := rightToken(some(16), c).Prove(some(3))
		for _, tag := range [][]byte{nil, p[:31], p[:], make([]byte, 32)} {
			if e := Proves(nil, c, tag, some(3)); e != api.ErrArg {
				t.Errorf("no master, %v: %d", c, e)
			}
			if e := Proves(mac.New(some(16)), c, tag, some(3)); claims.Check(c) != api.OK && e != api.ErrRange {
				t.Errorf("%v: %d", c, e)
			}
		}
	}
}

// P6.3: New and Master.

func TestNew(t *testing.T) {
	for n := range 300 {
		m, e := New(some(n))
		switch {
		case n < 16 && (m != nil || e != api.ErrArg):
			t.Errorf("%d bytes: %v, %d", n, m, e)
		case n >= 16 && (m == nil || e != api.OK):
			t.Errorf("%d bytes: %v, %d", n, m, e)
		case n >= 16 && (m.Count() != 0 || !bytes.Equal(m.Master().Bytes(), some(n))):
			t.Errorf("%d bytes: %d, %x", n, m.Count(), m.Master().Bytes())
		}
	}
	if m, e := New(nil); m != nil || e != api.ErrArg {
		t.Errorf("nil: %v, %d", m, e)
	}
	if m, e := New(some(16)[:15]); m != nil || e != api.ErrArg {
		t.Errorf("15 bytes of 16: %v, %d", m, e)
	}
	if m, e := New(make([]byte, 16)); m == nil || e != api.OK {
		t.Errorf("bytes 0: %d", e)
	}
}

// P6.3: Issue, Count and Find.

func TestIssue(t *testing.T) {
	m := mint(t, some(20))
	for i, c := range []struct {
		id, expiry int
		roles      []int
		mask       int
	}{
		{1, 0, nil, 0}, {65535, 1 << 30, []int{0, 1, 2, 3, 4, 5, 6, 7}, 255}, {7, 500, []int{0, 2}, 5}, {7, 500, []int{2, 0, 2}, 5}, {7, 500, []int{7}, 128},
	} {
		want := claims.Claims{Id: c.id, Roles: c.mask, Expiry: c.expiry, Serial: i + 1}
		if x, e := m.Issue(c.id, c.expiry, c.roles...); e != api.OK || x != rightToken(some(20), want) {
			t.Errorf("%d: %v, %d", i, x, e)
		}
		if found, e := m.Find(i + 1); e != api.OK || found != want || m.Count() != i+1 {
			t.Errorf("%d: found %v, %d, count %d", i, found, e, m.Count())
		}
	}
}

func TestTheFirstSerial(t *testing.T) {
	for _, n := range []int{16, 32, 100} {
		if x, e := mint(t, some(n)).Issue(9, 9); e != api.OK || x.Claims != (claims.Claims{Id: 9, Expiry: 9, Serial: 1}) {
			t.Errorf("%v, %d", x, e)
		}
	}
}

// none fails unless nothing is issued, with this error.
func none(t *testing.T, m *Mint, want api.Errno, id, expiry int, roles ...int) {
	t.Helper()
	before := *m
	if x, e := m.Issue(id, expiry, roles...); e != want || x != (Token{}) {
		t.Errorf("%d, %d, %v: %v, %d, want %d", id, expiry, roles, x, e, want)
	}
	if m.issued != before.issued {
		t.Errorf("%d, %d, %v: something is issued", id, expiry, roles)
	}
}

var (
	noRoles    = [][]int{{-1}, {8}, {0, 8}, {8, 0}, {64}, {1, 2, -64}, {math.MinInt}, {math.MaxInt}, {0, 1, 2, 3, 4, 5, 6, 7, 8}}
	noIds      = []int{0, -1, 65536, 65537, 1 << 32, math.MinInt, math.MaxInt}
	noExpiries = []int{-1, 1<<30 + 1, 1 << 31, 1 << 32, math.MinInt, math.MaxInt}
)

func refuses(t *testing.T, m *Mint, role, other api.Errno) {
	t.Helper()
	for _, roles := range noRoles {
		none(t, m, role, 7, 500, roles...)
		none(t, m, role, 0, 500, roles...)
		none(t, m, role, 7, -1, roles...)
	}
	for _, id := range noIds {
		none(t, m, other, id, 500)
		none(t, m, other, id, 500, 0, 7)
	}
	for _, expiry := range noExpiries {
		none(t, m, other, 7, expiry)
		none(t, m, other, 0, expiry, 0, 7)
	}
}

// finds fails unless the mint finds just these, each by its serial.
func finds(t *testing.T, m *Mint, want []claims.Claims) {
	t.Helper()
	if m.Count() != len(want) {
		t.Errorf("count %d, want %d", m.Count(), len(want))
	}
	for i, c := range want {
		if got, e := m.Find(i + 1); got != c || e != api.OK {
			t.Errorf("serial %d: %v, %d, want %v", i+1, got, e, c)
		}
	}
	for _, serial := range []int{0, -1, -2, len(want) + 1, len(want) + 2, 257, 65536, math.MinInt, math.MaxInt} {
		if got, e := m.Find(serial); got != (claims.Claims{}) || e != api.ErrNone {
			t.Errorf("serial %d: %v, %d", serial, got, e)
		}
	}
}

// A mint issues 256, refusing between any two of them, and none beyond.
func TestAllTokensOfAMint(t *testing.T) {
	m := mint(t, some(16))
	var want []claims.Claims
	for i := range 256 {
		finds(t, m, want)
		refuses(t, m, api.ErrRange, api.ErrRange)
		c := claims.Claims{Id: 65535 - i, Roles: i, Expiry: i * 1000, Serial: i + 1}
		x, e := m.Issue(c.Id, c.Expiry, claims.Roles(i)...)
		if e != api.OK || x != rightToken(some(16), c) {
			t.Fatalf("%d: %v, %d", i, x, e)
		}
		want = append(want, c)
	}
	for range 3 {
		finds(t, m, want)
		none(t, m, api.ErrFull, 7, 500)
		none(t, m, api.ErrFull, 7, 500, 0, 7)
		refuses(t, m, api.ErrRange, api.ErrFull)
	}
}

// The mask goes first, then the room, then the other claims: each of the errors where
// several would be told.
func TestWhichErrorIsTold(t *testing.T) {
	m := mint(t, some(16))
	none(t, m, api.ErrRange, 0, -1, 8)
	for range api.MaxTokens {
		m.Issue(1, 1)
	}
	none(t, m, api.ErrRange, 0, -1, 8)
	none(t, m, api.ErrRange, 7, 500, 8)
	none(t, m, api.ErrFull, 0, -1)
	none(t, m, api.ErrFull, 0, -1, 7)
}

// One identity may have several tokens, each of its own serial.
func TestTheSameClaimsTwice(t *testing.T) {
	m := mint(t, some(16))
	a, _ := m.Issue(7, 500, 1)
	b, _ := m.Issue(7, 500, 1)
	if a.Claims.Serial != 1 || b.Claims.Serial != 2 || a.Secret == b.Secret {
		t.Error(a, b)
	}
	finds(t, m, []claims.Claims{{Id: 7, Roles: 2, Expiry: 500, Serial: 1}, {Id: 7, Roles: 2, Expiry: 500, Serial: 2}})
}

// P6.4.

func TestWhatIsIssuedHoldsAndProves(t *testing.T) {
	r := rand.New(rand.NewSource(64))
	for n := 16; n < 24; n++ {
		m := mint(t, some(n))
		for _, c := range chance(256) {
			x, e := m.Issue(c.Id, c.Expiry, claims.Roles(c.Roles)...)
			c.Serial = m.Count()
			if e != api.OK || x.Claims != c || !Holds(m.Master(), x) {
				t.Fatalf("%v: %v, %d", c, x, e)
			}
			parts := slices.Collect(slices.Chunk(some(r.Intn(50)), 1+r.Intn(9)))
			proof := x.Prove(parts...)
			if e := Proves(m.Master(), c, proof[:], parts...); e != api.OK {
				t.Errorf("%v doesn't prove: %d", c, e)
			}
			for _, o := range others(c) {
				if Holds(m.Master(), Token{o, x.Secret}) {
					t.Errorf("%v holds as %v", c, o)
				}
				if e := Proves(m.Master(), o, proof[:], parts...); e != api.ErrTag {
					t.Errorf("%v proves as %v: %d", c, o, e)
				}
			}
			again, e := Make(m.Master(), c)
			told, f := Bytes(x)
			back, g := Parse(told)
			if again != x || back != x || e != api.OK || f != api.OK || g != api.OK {
				t.Errorf("%v: %v, %v, %d, %d, %d", c, again, back, e, f, g)
			}
		}
	}
}

// All roles of a token: with one more, or one fewer, it doesn't hold.
func TestEveryMaskAgainstEveryOther(t *testing.T) {
	m := mint(t, some(16))
	secrets := map[[32]byte]int{}
	for mask := range 256 {
		x, e := Make(m.Master(), claims.Claims{Id: 7, Roles: mask, Expiry: 500, Serial: 1})
		if e != api.OK {
			t.Fatal(e)
		}
		if other, there := secrets[x.Secret]; there {
			t.Errorf("roles %d and %d have one secret", other, mask)
		}
		secrets[x.Secret] = mask
	}
}

func TestNilMint(t *testing.T) {
	var m *Mint
	for _, roles := range append(noRoles, nil, []int{0}, []int{0, 7}) {
		for _, id := range append(noIds, 1, 7) {
			if x, e := m.Issue(id, 500, roles...); x != (Token{}) || e != api.ErrState {
				t.Errorf("%d, %v: %v, %d", id, roles, x, e)
			}
		}
	}
	for _, serial := range []int{-1, 0, 1, 2, 256, 257} {
		if c, e := m.Find(serial); c != (claims.Claims{}) || e != api.ErrState {
			t.Errorf("%d: %v, %d", serial, c, e)
		}
	}
	if m.Count() != 0 || m.Master() != nil {
		t.Error(m.Count(), m.Master())
	}
}

// The zero Mint, which New never answers, has no master key to make a token by.
func TestZeroMint(t *testing.T) {
	m := &Mint{}
	none(t, m, api.ErrArg, 7, 500)
	none(t, m, api.ErrRange, 7, 500, 8)
	finds(t, m, nil)
	if m.Master() != nil {
		t.Error(m.Master())
	}
}

// A mint that is copied goes its own way.
func TestCopiedMint(t *testing.T) {
	m := mint(t, some(16))
	m.Issue(7, 500)
	n := *m
	m.Issue(8, 500)
	n.Issue(9, 500)
	m.Issue(10, 500)
	first := claims.Claims{Id: 7, Expiry: 500, Serial: 1}
	finds(t, m, []claims.Claims{first, {Id: 8, Expiry: 500, Serial: 2}, {Id: 10, Expiry: 500, Serial: 3}})
	finds(t, &n, []claims.Claims{first, {Id: 9, Expiry: 500, Serial: 2}})
}

// What is handed in or out is neither kept, nor changed, nor shared.

func scribble(b []byte) {
	for i := range b[:cap(b)] {
		b[:cap(b)][i] ^= 0x5a
	}
}

func TestTheMasterIsNotKeptAndNotShared(t *testing.T) {
	in := append(make([]byte, 0, 64), some(20)...)
	before := bytes.Clone(in[:cap(in)])
	m := mint(t, in)
	if !bytes.Equal(in[:cap(in)], before) {
		t.Error("what was handed in is changed")
	}
	scribble(in)
	want := claims.Claims{Id: 7, Roles: 5, Expiry: 500, Serial: 1}
	if x, _ := m.Issue(7, 500, 0, 2); x != rightToken(some(20), want) {
		t.Error("what was handed in is kept")
	}
	scribble(m.Master().Bytes())
	k := m.Master()
	*k = *mac.New(some(9))
	want.Serial = 2
	if x, _ := m.Issue(7, 500, 0, 2); x != rightToken(some(20), want) || !bytes.Equal(m.Master().Bytes(), some(20)) {
		t.Error("what was handed out is shared")
	}
}

// A key of the caller's may be changed behind the call: nothing that was answered
// changes with it.
func TestKeysAreNotChangedAndNotKept(t *testing.T) {
	c := claims.Claims{Id: 258, Roles: 3, Expiry: 5, Serial: 7}
	k := mac.New(some(20))
	x, _ := Make(k, c)
	p := x.Prove(some(3))
	Holds(k, x)
	Proves(k, c, p[:], some(3))
	if !bytes.Equal(k.Bytes(), some(20)) {
		t.Error("what was handed in is changed")
	}
	*k = *mac.New(some(9))
	if x != rightToken(some(20), c) || p != x.Prove(some(3)) {
		t.Error("what was handed in is kept")
	}
	first, second := x.Key(), x.Key()
	*first = *k
	if !bytes.Equal(second.Bytes(), x.Secret[:]) || x != rightToken(some(20), c) {
		t.Error("what was handed out is shared")
	}
}

func TestPartsAndTagsAreNotChanged(t *testing.T) {
	room := append(some(40), bytes.Repeat([]byte{77}, 60)...)
	before := bytes.Clone(room)
	list := append(make([][]byte, 0, 9), room[:10], room[10:40])
	x := rightToken(some(16), claims.Claims{Id: 258, Roles: 3, Expiry: 5, Serial: 7})
	for n := range 3 {
		p := x.Prove(list[:n]...)
		tag := append(make([]byte, 0, 64), p[:]...)
		if e := Proves(mac.New(some(16)), x.Claims, tag, list[:n]...); e != api.OK || !bytes.Equal(tag[:64], append(p[:], make([]byte, 32)...)) {
			t.Errorf("%d parts: %d, %x", n, e, tag[:64])
		}
	}
	if !bytes.Equal(room, before) || len(list[0]) != 10 || len(list[1]) != 30 {
		t.Error("bytes are changed")
	}
	if slices.ContainsFunc(list[2:9], func(b []byte) bool { return b != nil }) {
		t.Error("parts are changed")
	}
}

func TestRolesAreNotChangedAndNotKept(t *testing.T) {
	m := mint(t, some(16))
	in := append(make([]int, 0, 16), 7, 0, 2, 2)
	before := slices.Clone(in[:cap(in)])
	x, e := m.Issue(7, 500, in...)
	if x.Claims.Roles != 133 || e != api.OK || !slices.Equal(in[:cap(in)], before) {
		t.Errorf("%v, %d, %v", x, e, in[:cap(in)])
	}
	clear(in)
	finds(t, m, []claims.Claims{{Id: 7, Roles: 133, Expiry: 500, Serial: 1}})
}

func TestBytesAreNotChangedAndNotShared(t *testing.T) {
	x := rightToken(some(16), claims.Claims{Id: 258, Roles: 3, Expiry: 5, Serial: 7})
	out, _ := Bytes(x)
	other, _ := Bytes(x)
	scribble(out)
	if again, e := Bytes(x); e != api.OK || !bytes.Equal(again, other) || x != rightToken(some(16), x.Claims) {
		t.Error("what was handed out is shared")
	}
	in := append(make([]byte, 0, 64), other...)
	before := bytes.Clone(in[:cap(in)])
	got, _ := Parse(in)
	if !bytes.Equal(in[:cap(in)], before) {
		t.Error("what was handed in is changed")
	}
	scribble(in)
	if got != x {
		t.Error("what was handed in is kept")
	}
}

// P1 and P2: every call ends, none panics, and the same calls answer the same.

func story(k *mac.Key, m *Mint, c claims.Claims, b []byte, n int) []any {
	x, e := Make(k, c)
	told, f := Bytes(Token{c, x.Secret})
	parsed, g := Parse(b)
	p := x.Prove(b, nil, told)
	first, h := m.Issue(c.Id, c.Expiry, n)
	second, i := m.Issue(n, n)
	found, j := m.Find(n)
	latest, l := m.Find(m.Count())
	return []any{
		x, e, string(told), f, parsed, g, Holds(k, x), Holds(k, parsed), p, string(x.Key().Bytes()), Proves(k, c, p[:], b, nil, told), Proves(k, c, b),
		first, h, second, i, m.Count(), found, j, latest, l, string(m.Master().Bytes()), Holds(m.Master(), first), Proves(m.Master(), c, p[:]),
	}
}

func TestTheSameCallsAnswerTheSame(t *testing.T) {
	for i, c := range append(append(wrong(), right()...), chance(20)...) {
		for _, n := range []int{math.MinInt, -1, 0, 1, 7, 8, 64, 256, 257, 65536, math.MaxInt} {
			for _, b := range [][]byte{nil, {0}, some(32), some(41), append(claimsBytes(c), some(32)...), some(42), some(1100)} {
				for _, k := range []*mac.Key{nil, {}, mac.New(b)} {
					one, e := New(b)
					two, f := New(b)
					if e != f || !slices.Equal(story(k, one, c, b, n), story(k, two, c, b, n)) {
						t.Errorf("%d: %v, %x, %d", i, c, b, n)
					}
				}
			}
		}
	}
}

func FuzzToken(f *testing.F) {
	f.Add(some(16), 258, 3, 5, 7, some(41), some(9), 4)
	f.Add(some(3), 0, 256, -1, 65536, append([]byte{1, 2, 3, 0, 0, 0, 5, 0, 7}, some(32)...), some(0), 0)
	f.Fuzz(func(t *testing.T, master []byte, id, mask, expiry, serial int, b, text []byte, at int) {
		at = int(uint(at) % uint(len(text)+1))
		k, c := mac.New(master), claims.Claims{Id: id, Roles: mask, Expiry: expiry, Serial: serial}
		x, e := Make(k, c)
		if e != claims.Check(c) || Holds(k, x) != (e == api.OK) {
			t.Fatalf("%v: %v, %d", c, x, e)
		}
		if e == api.OK && x != rightToken(master, c) {
			t.Errorf("%v: %v", c, x)
		}
		p := x.Prove(text[:at], text[at:])
		if p != rightKey(x.Secret[:], "proof", text[:at], text[at:]) || Proves(k, c, p[:], text[:at], text[at:]) != e {
			t.Errorf("%v: the proof", c)
		}
		if parsed, e := Parse(b); e == api.OK {
			if told, e := Bytes(parsed); e != api.OK || !bytes.Equal(told, b) {
				t.Errorf("%x: %x, %d", b, told, e)
			}
		} else if parsed != (Token{}) {
			t.Errorf("%x: %v, %d", b, parsed, e)
		}
		if m, e := New(master); (e == api.OK) != (len(master) >= 16) {
			t.Errorf("%d bytes: %v, %d", len(master), m, e)
		}
	})
}

func BenchmarkIssueAndProves(b *testing.B) {
	m, _ := New(some(32))
	x, _ := m.Issue(7, 500, 0, 2)
	k := m.Master()
	for b.Loop() {
		p := x.Prove(some(3))
		Proves(k, x.Claims, p[:], some(3))
	}
}
