package keys

import (
	"bytes"
	"crypto/hmac"
	"crypto/sha256"
	"encoding/binary"
	"encoding/hex"
	"math"
	"math/rand"
	"testing"

	"vigil/api"
	"vigil/claims"
	"vigil/mac"
	"vigil/token"
)

// some is so many bytes, no two neighbours of which are the same.
func some(n int) []byte {
	b := make([]byte, n)
	for i := range b {
		b[i] = byte(i*37 + i/64*11 + 5)
	}
	return b
}

// rightKey is the derived key, by the library's own means.
func rightKey(key []byte, label string, parts ...[]byte) []byte {
	h := hmac.New(sha256.New, key)
	for _, p := range append([][]byte{[]byte(label)}, parts...) {
		h.Write(binary.BigEndian.AppendUint32(nil, uint32(len(p))))
		h.Write(p)
	}
	return h.Sum(nil)
}

// rightSecret is the secret of claims under the master key's bytes.
func rightSecret(master []byte, c claims.Claims) []byte {
	b := binary.BigEndian.AppendUint16(nil, uint16(c.Id))
	b = append(b, byte(c.Roles))
	b = binary.BigEndian.AppendUint32(b, uint32(c.Expiry))
	return rightKey(master, "token", binary.BigEndian.AppendUint16(b, uint16(c.Serial)))
}

func rightSender(secret []byte, verifier int) []byte {
	return rightKey(secret, "sender", []byte{byte(verifier / 256), byte(verifier % 256)})
}

func rightSeed(secret []byte, seed int) []byte {
	return rightKey(secret, "seed", []byte{byte(seed)})
}

func rightLabel(master []byte, role int) []byte {
	return rightKey(master, "label", []byte{byte(role)})
}

// keyBytes is the bytes of some keys, of any length.
func keyBytes() [][]byte {
	return [][]byte{nil, {0}, []byte("a"), make([]byte, 16), some(16), some(32), some(64), some(65), some(200)}
}

var (
	verifiers = []int{1, 2, 5, 9, 255, 256, 257, 258, 4096, 32767, 32768, 65280, 65534, 65535}
	noOnes    = []int{0, -1, -256, -65535, 65536, 65537, 65792, 1<<32 + 9, 1<<48 + 1, math.MinInt, math.MinInt + 1, math.MaxInt}
	seeds     = []int{0, 1, 2, 3}
	noSeeds   = []int{-1, -4, 4, 5, 255, 256, 257, 1 << 32, math.MinInt, math.MaxInt}
	roles     = []int{0, 1, 2, 3, 4, 5, 6, 7}
	noRoles   = []int{-1, -8, 8, 9, 63, 64, 65, 256, 263, 1 << 32, math.MinInt, math.MaxInt}
)

// right is claims at the ends of their limits and within them.
func right() []claims.Claims {
	var out []claims.Claims
	for _, id := range []int{1, 258, 65535} {
		for _, mask := range []int{0, 3, 255} {
			for _, expiry := range []int{0, 5, 1 << 30} {
				for _, serial := range []int{1, 256, 65535} {
					out = append(out, claims.Claims{Id: id, Roles: mask, Expiry: expiry, Serial: serial})
				}
			}
		}
	}
	return out
}

// wrong is claims of which a number, or all of them, isn't within its limits.
func wrong() []claims.Claims {
	return []claims.Claims{
		{}, {Id: 0, Roles: 3, Expiry: 5, Serial: 7}, {Id: -1, Roles: 3, Expiry: 5, Serial: 7}, {Id: 65536, Roles: 3, Expiry: 5, Serial: 7},
		{Id: 258, Roles: -1, Expiry: 5, Serial: 7}, {Id: 258, Roles: 256, Expiry: 5, Serial: 7},
		{Id: 258, Roles: 3, Expiry: -1, Serial: 7}, {Id: 258, Roles: 3, Expiry: 1<<30 + 1, Serial: 7},
		{Id: 258, Roles: 3, Expiry: 5, Serial: 0}, {Id: 258, Roles: 3, Expiry: 5, Serial: -1}, {Id: 258, Roles: 3, Expiry: 5, Serial: 65536},
		{Id: math.MinInt, Roles: math.MinInt, Expiry: math.MinInt, Serial: math.MinInt},
		{Id: math.MaxInt, Roles: math.MaxInt, Expiry: math.MaxInt, Serial: math.MaxInt},
	}
}

// chance is claims by a fixed row of draws, so that each run has the same ones.
func chance(n int) []claims.Claims {
	r := rand.New(rand.NewSource(7))
	out := make([]claims.Claims, n)
	for i := range out {
		out[i] = claims.Claims{Id: 1 + r.Intn(65535), Roles: r.Intn(256), Expiry: r.Intn(1<<30 + 1), Serial: 1 + r.Intn(65535)}
	}
	return out
}

// is tells if the answer isn't the key of these bytes.
func is(t *testing.T, what string, n int, k *mac.Key, e api.Errno, want []byte) {
	t.Helper()
	if e != api.OK || k == nil || !bytes.Equal(k.Bytes(), want) {
		t.Errorf("%s %d: %x, %d, not %x", what, n, k.Bytes(), e, want)
	}
}

// isNot tells if the answer isn't this error, with no key beside it.
func isNot(t *testing.T, what string, n int, k *mac.Key, e, want api.Errno) {
	t.Helper()
	if e != want || k != nil {
		t.Errorf("%s %d: %x, %d, not %d", what, n, k.Bytes(), e, want)
	}
}

func TestTheNumbers(t *testing.T) {
	_, e := Sender(nil, 1)
	_, f := Seed(mac.New(nil), 4)
	_, g := (*Ring)(nil).Label(0)
	r := ring(t, token.Token{Claims: claims.Claims{Id: 1, Serial: 1}})
	_, h := r.From(claims.Claims{})
	i := r.Learn(0, mac.New(nil))
	c := claims.Claims{Id: 2, Serial: 2}
	r.Add(c, mac.New(nil))
	j := r.Add(c, mac.New(nil))
	fill(t, r, 15)
	k := r.Add(claims.Claims{Id: 3, Serial: 3}, mac.New(nil))
	if e != 1 || f != 10 || g != 11 || h != 7 || i != 12 || j != 8 || k != 6 {
		t.Error(e, f, g, h, i, j, k)
	}
}

// The keys of one member, as another program works them out.
func TestKnownKeys(t *testing.T) {
	master, c := mac.New([]byte("sixteen bytes 00")), claims.Claims{Id: 258, Roles: 3, Expiry: 5, Serial: 7}
	secret, err := hex.DecodeString("69840136a74a231e66d9d9792eef7766e61548ee7ffab537f5129bdcd6e938b8")
	if err != nil {
		t.Fatal(err)
	}
	known := func(text string, k *mac.Key, e api.Errno) {
		t.Helper()
		if hex.EncodeToString(k.Bytes()) != text || e != api.OK {
			t.Errorf("%x, %d, not %s", k.Bytes(), e, text)
		}
	}
	k, e := Sender(mac.New(secret), 9)
	known("4f908f4036157b6bf6b5cf9d20a82640e86e392e3da9f7690824f618e05c2894", k, e)
	k, e = Grant(master, c, 65535)
	known("2516c3092c202defa6e10d1ed3f095ece3b4d66cfe4ef0a0b71a2df7ff3f19f0", k, e)
	k, e = Seed(mac.New(secret), 2)
	known("ace3f572c9f44b331f16b3796baa55bb26814683a2da8fa580073ec09af5d6f1", k, e)
	k, e = Member(master, c, 2)
	known("ace3f572c9f44b331f16b3796baa55bb26814683a2da8fa580073ec09af5d6f1", k, e)
	k, e = Label(master, 7)
	known("a453abea27f02907a42cb3a74cab5453fa9b6e16b531812fcb8f9ccdd0bdbe5c", k, e)
}

// P7.1: Sender, Seed, Label.

func TestSenderSeedAndLabel(t *testing.T) {
	for _, b := range keyBytes() {
		for _, v := range verifiers {
			k, e := Sender(mac.New(b), v)
			is(t, "sender", v, k, e, rightSender(b, v))
		}
		for _, s := range seeds {
			k, e := Seed(mac.New(b), s)
			is(t, "seed", s, k, e, rightSeed(b, s))
		}
		for _, r := range roles {
			k, e := Label(mac.New(b), r)
			is(t, "label", r, k, e, rightLabel(b, r))
		}
	}
}

func TestSenderSeedAndLabelOutOfRange(t *testing.T) {
	for _, b := range keyBytes() {
		for _, v := range noOnes {
			k, e := Sender(mac.New(b), v)
			isNot(t, "sender", v, k, e, api.ErrRange)
		}
		for _, s := range noSeeds {
			k, e := Seed(mac.New(b), s)
			isNot(t, "seed", s, k, e, api.ErrRange)
		}
		for _, r := range noRoles {
			k, e := Label(mac.New(b), r)
			isNot(t, "label", r, k, e, api.ErrRange)
		}
	}
}

// A nil key is told ahead of a number that is out of its range.
func TestSenderSeedAndLabelOfNoKey(t *testing.T) {
	for _, v := range append(verifiers, noOnes...) {
		k, e := Sender(nil, v)
		isNot(t, "sender", v, k, e, api.ErrArg)
	}
	for _, s := range append(seeds, noSeeds...) {
		k, e := Seed(nil, s)
		isNot(t, "seed", s, k, e, api.ErrArg)
	}
	for _, r := range append(roles, noRoles...) {
		k, e := Label(nil, r)
		isNot(t, "label", r, k, e, api.ErrArg)
	}
}

func TestAZeroKeyIsAKey(t *testing.T) {
	k, e := Sender(&mac.Key{}, 9)
	is(t, "sender", 9, k, e, rightSender(nil, 9))
	k, e = Seed(&mac.Key{}, 3)
	is(t, "seed", 3, k, e, rightSeed(nil, 3))
	k, e = Label(&mac.Key{}, 7)
	is(t, "label", 7, k, e, rightLabel(nil, 7))
}

func TestEveryVerifierHasAKeyOfItsOwn(t *testing.T) {
	secret, seen := mac.New(some(32)), map[string]int{}
	for v := 1; v <= 65535; v++ {
		k, e := Sender(secret, v)
		if e != api.OK {
			t.Fatal(v, e)
		}
		if other, there := seen[string(k.Bytes())]; there {
			t.Errorf("%d and %d have one key", other, v)
		}
		seen[string(k.Bytes())] = v
	}
}

// P7.1: Grant and Member.

func TestGrantAndMember(t *testing.T) {
	for _, master := range keyBytes() {
		for _, c := range append(right(), chance(5)...) {
			secret := rightSecret(master, c)
			for _, v := range []int{1, c.Id, 256, 65535} {
				k, e := Grant(mac.New(master), c, v)
				is(t, "grant", v, k, e, rightSender(secret, v))
			}
			for _, s := range seeds {
				k, e := Member(mac.New(master), c, s)
				is(t, "member", s, k, e, rightSeed(secret, s))
			}
		}
	}
}

// A nil master is told first, whatever the claims and the numbers are.
func TestGrantAndMemberOfNoMaster(t *testing.T) {
	for _, c := range append(right(), wrong()...) {
		for _, v := range append(noOnes, 1, 65535) {
			k, e := Grant(nil, c, v)
			isNot(t, "grant", v, k, e, api.ErrArg)
		}
		for _, s := range append(noSeeds, seeds...) {
			k, e := Member(nil, c, s)
			isNot(t, "member", s, k, e, api.ErrArg)
		}
	}
}

// Of claims that aren't right, and of a number that is out of its range, or of both.
func TestGrantAndMemberOutOfRange(t *testing.T) {
	master := mac.New(some(16))
	for _, c := range wrong() {
		for _, v := range append(noOnes, 1, 65535) {
			k, e := Grant(master, c, v)
			isNot(t, "grant", v, k, e, api.ErrRange)
		}
		for _, s := range append(noSeeds, seeds...) {
			k, e := Member(master, c, s)
			isNot(t, "member", s, k, e, api.ErrRange)
		}
	}
	for _, c := range right() {
		for _, v := range noOnes {
			k, e := Grant(master, c, v)
			isNot(t, "grant", v, k, e, api.ErrRange)
		}
		for _, s := range noSeeds {
			k, e := Member(master, c, s)
			isNot(t, "member", s, k, e, api.ErrRange)
		}
	}
}

// P7.4: what a sender has of its token, a seed of the claims, and a verifier of the
// grant is one key.

// issued is tokens that a mint issued, all roles' masks among them, and the mint.
func issued(t *testing.T, master []byte) (*token.Mint, []token.Token) {
	t.Helper()
	m, e := token.New(master)
	if e != api.OK {
		t.Fatal(e)
	}
	var out []token.Token
	draws := rand.New(rand.NewSource(74))
	for mask := range api.MaxTokens {
		x, e := m.Issue(1+draws.Intn(65535), draws.Intn(1<<30+1), claims.Roles(mask)...)
		if e != api.OK {
			t.Fatal(e)
		}
		out = append(out, x)
	}
	return m, out
}

func TestAllHaveOneKey(t *testing.T) {
	m, tokens := issued(t, some(32))
	for i, x := range tokens {
		verifier := tokens[(i+1)%len(tokens)]
		own, e := ring(t, x).To(verifier.Claims.Id)
		is(t, "own", i, own, e, rightSender(x.Secret[:], verifier.Claims.Id))
		told, e := Grant(m.Master(), x.Claims, verifier.Claims.Id)
		is(t, "grant", i, told, e, own.Bytes())
		k, e := Sender(x.Key(), verifier.Claims.Id)
		is(t, "sender", i, k, e, own.Bytes())
		r := ring(t, verifier)
		if e := r.Add(x.Claims, told); e != api.OK {
			t.Errorf("%d: %d", i, e)
		}
		k, e = r.From(x.Claims)
		is(t, "from", i, k, e, own.Bytes())
		for _, s := range seeds {
			mine, e := ring(t, x).Seed(s)
			is(t, "own seed", s, mine, e, rightSeed(x.Secret[:], s))
			k, e := Member(m.Master(), x.Claims, s)
			is(t, "member", s, k, e, mine.Bytes())
		}
	}
}

// Whose it is, whom it is for, and what it is for: with one of these another, it is
// another key.
func TestNoTwoHaveOneKey(t *testing.T) {
	seen := map[string]string{}
	note := func(what string, n int, k *mac.Key, e api.Errno) {
		t.Helper()
		what += " " + claims.Text(claims.Claims{Id: n})
		if other, there := seen[string(k.Bytes())]; there || e != api.OK {
			t.Errorf("%s and %s have one key, or %d", other, what, e)
		}
		seen[string(k.Bytes())] = what
	}
	for _, master := range [][]byte{some(16), some(17)} {
		for _, r := range roles {
			k, e := Label(mac.New(master), r)
			note("label", r, k, e)
		}
		for _, c := range append(right(), chance(20)...) {
			note(claims.Text(c), 0, mac.New(rightSecret(master, c)), api.OK)
			for _, v := range verifiers {
				k, e := Grant(mac.New(master), c, v)
				note(claims.Text(c)+" grant", v, k, e)
			}
			for _, s := range seeds {
				k, e := Member(mac.New(master), c, s)
				note(claims.Text(c)+" member", s, k, e)
			}
		}
	}
}

// Who has one claim another has another key: a token that is changed speaks for
// nobody.
func TestAChangedTokenHasAnotherKey(t *testing.T) {
	m, tokens := issued(t, some(16))
	for i, x := range tokens {
		x.Claims.Roles ^= 1 << (i % 8)
		own, e := ring(t, x).To(9)
		if e != api.OK {
			t.Fatal(e)
		}
		told, e := Grant(m.Master(), x.Claims, 9)
		if e != api.OK || mac.Equal(own.Bytes(), told.Bytes()) {
			t.Errorf("%v: %x, %d", x.Claims, told.Bytes(), e)
		}
	}
}

// What is handed in or out is neither kept, nor changed, nor shared.

// answers is what Sender, Seed, Label, Grant and Member answer of a key.
func answers(k *mac.Key, c claims.Claims) []*mac.Key {
	var out []*mac.Key
	add := func(k *mac.Key, e api.Errno) { out = append(out, k) }
	add(Sender(k, 9))
	add(Seed(k, 2))
	add(Label(k, 7))
	add(Grant(k, c, 9))
	add(Member(k, c, 2))
	return out
}

func TestKeysAreNotKeptAndNotShared(t *testing.T) {
	k, c := mac.New(some(20)), claims.Claims{Id: 258, Roles: 3, Expiry: 5, Serial: 7}
	first, second := answers(k, c), answers(k, c)
	if !bytes.Equal(k.Bytes(), some(20)) {
		t.Error("what was handed in is changed")
	}
	want := make([][]byte, len(first))
	for i, x := range first {
		want[i] = x.Bytes()
		scribble(x.Bytes())
		*second[i] = *mac.New(some(9))
	}
	*k = *mac.New(some(9))
	third := answers(mac.New(some(20)), c)
	for i := range want {
		if !bytes.Equal(first[i].Bytes(), want[i]) || !bytes.Equal(third[i].Bytes(), want[i]) {
			t.Errorf("%d: kept or shared", i)
		}
	}
}

func scribble(b []byte) {
	for i := range b[:cap(b)] {
		b[:cap(b)][i] ^= 0x5a
	}
}

// P1 and P2: every call ends, none panics, and the same calls answer the same.

func TestTheSameCallsAnswerTheSame(t *testing.T) {
	for _, c := range append(append(wrong(), right()...), chance(5)...) {
		for _, b := range [][]byte{nil, {0}, some(32), some(65)} {
			for _, k := range []*mac.Key{nil, {}, mac.New(b)} {
				for _, n := range []int{math.MinInt, -1, 0, 1, 3, 4, 7, 8, 65535, 65536, math.MaxInt} {
					if one, two := story(k, c, n), story(k, c, n); one != two {
						t.Errorf("%v, %d: %s, %s", c, n, one, two)
					}
				}
			}
		}
	}
}
