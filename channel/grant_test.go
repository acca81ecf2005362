package channel

import (
	"bytes"
	"slices"
	"testing"

	"vigil/api"
	"vigil/claims"
	"vigil/keys"
	"vigil/mac"
	"vigil/window"
)

// asGrant is a grant's body, by the library's own means.
func asGrant(key []byte, n window.Nonce, sender claims.Claims, k []byte) []byte {
	return append(asClaims(sender), sealed(key, asNonce(n), asClaims(sender), k)...)
}

// sealers is the bytes of keys under which is granted, of any length.
func sealers() [][]byte {
	return [][]byte{nil, {0}, []byte("a"), make([]byte, 16), some(16), some(32), some(64), some(65), some(200)}
}

func rightNonces() []window.Nonce {
	return []window.Nonce{{Boot: 1, Counter: 1}, {Boot: 65535, Counter: 1<<31 - 1}, {Boot: 258, Counter: 0x01020304}, {Boot: 1, Counter: 77}}
}

func grants(t *testing.T, key []byte, n window.Nonce, sender claims.Claims, k []byte) []byte {
	t.Helper()
	b, e := Grant(mac.New(key), n, sender, mac.New(k))
	if want := asGrant(key, n, sender, k); e != api.OK || !bytes.Equal(b, want) || len(b) != 73 {
		t.Errorf("%v, %v: %x, %d, not %x", n, sender, b, e, want)
	}
	return b
}

func grantsNot(t *testing.T, key *mac.Key, n window.Nonce, sender claims.Claims, k *mac.Key, want api.Errno) {
	t.Helper()
	if b, e := Grant(key, n, sender, k); e != want || b != nil {
		t.Errorf("%v, %v, %d bytes: %x, %d, not %d", n, sender, len(k.Bytes()), b, e, want)
	}
}

func granted(t *testing.T, key []byte, n window.Nonce, body []byte, sender claims.Claims, k []byte) {
	t.Helper()
	c, got, e := Granted(mac.New(key), n, body)
	if e != api.OK || c != sender || got == nil || !bytes.Equal(got.Bytes(), k) {
		t.Errorf("%v: %v, %x, %d, not %v, %x", n, c, got.Bytes(), e, sender, k)
	}
}

func grantedNot(t *testing.T, key *mac.Key, n window.Nonce, body []byte, want api.Errno) {
	t.Helper()
	c, k, e := Granted(key, n, body)
	if e != want || c != (claims.Claims{}) || k != nil {
		t.Errorf("%v, %d bytes: %v, %x, %d, not %d", n, len(body), c, k.Bytes(), e, want)
	}
}

// P16.3: Grant and Granted of what is right.

func TestGrantAndGranted(t *testing.T) {
	for i, key := range sealers() {
		for j, sender := range append(right(), me, you) {
			for _, n := range rightNonces() {
				k := asSender(sender, 1+i*j)
				granted(t, key, n, grants(t, key, n, sender, k), sender, k)
			}
		}
	}
	for _, k := range [][]byte{make([]byte, 32), some(32), bytes.Repeat([]byte{255}, 32)} {
		granted(t, some(32), window.Nonce{Boot: 7, Counter: 7}, grants(t, some(32), window.Nonce{Boot: 7, Counter: 7}, you, k), you, k)
	}
}

// The sender's claims are to be read, and its key isn't.
func TestAGrantHidesTheKey(t *testing.T) {
	seen := map[string]bool{}
	for counter := 1; counter < 200; counter++ {
		b := grants(t, some(32), window.Nonce{Boot: 1, Counter: counter}, you, asSender(you, me.Id))
		if !bytes.Equal(b[:9], asClaims(you)) || bytes.Contains(b, asSender(you, me.Id)[:4]) || seen[string(b[9:41])] {
			t.Errorf("%x", b)
		}
		seen[string(b[9:41])] = true
	}
}

// What a seed grants is granted to the member whose key for that seed it is sealed under.
func TestGrantUnderAMembersKey(t *testing.T) {
	m := mac.New([]byte(master))
	n := window.Nonce{Boot: 3, Counter: 4}
	for _, seed := range seeds {
		key, _ := keys.Member(m, me, seed)
		k, _ := keys.Grant(m, you, me.Id)
		body, e := Grant(key, n, you, k)
		if e != api.OK || !bytes.Equal(body, asGrant(asSeed(me, seed), n, you, asSender(you, me.Id))) {
			t.Error(seed, e)
		}
		own, _ := made(t, me, 1).Ring().Seed(seed)
		c, got, e := Granted(own, n, body)
		if e != api.OK || c != you || !bytes.Equal(got.Bytes(), asSender(you, me.Id)) {
			t.Error(seed, c, e)
		}
		other, _ := made(t, me, 1).Ring().Seed((seed + 1) % 4)
		grantedNot(t, other, n, body, api.ErrTag)
		theirs, _ := made(t, others[0], 1).Ring().Seed(seed)
		grantedNot(t, theirs, n, body, api.ErrTag)
	}
}

func TestAZeroKeyIsAKey(t *testing.T) {
	n := window.Nonce{Boot: 1, Counter: 1}
	b, e := Grant(&mac.Key{}, n, you, mac.New(some(32)))
	if e != api.OK || !bytes.Equal(b, asGrant(nil, n, you, some(32))) {
		t.Error(e)
	}
	c, k, e := Granted(&mac.Key{}, n, b)
	if e != api.OK || c != you || !bytes.Equal(k.Bytes(), some(32)) {
		t.Error(e)
	}
	grantsNot(t, mac.New(some(32)), n, you, &mac.Key{}, api.ErrForm)
}

// P16.3: what isn't right.

// A nil key is told first, then the claims and the nonce, and then the key that is
// granted.
func TestGrantOfWrongOnes(t *testing.T) {
	key, k, n := mac.New(some(32)), mac.New(some(32)), window.Nonce{Boot: 1, Counter: 1}
	for _, other := range []*mac.Key{nil, k, mac.New(some(31))} {
		for _, sender := range append(wrong(), right()...) {
			for _, at := range append(wrongNonces(), n) {
				grantsNot(t, nil, at, sender, other, api.ErrArg)
			}
		}
		for _, sender := range wrong() {
			for _, at := range append(wrongNonces(), n) {
				grantsNot(t, key, at, sender, other, api.ErrRange)
			}
		}
		for _, sender := range right() {
			for _, at := range wrongNonces() {
				grantsNot(t, key, at, sender, other, api.ErrRange)
			}
		}
	}
	grantsNot(t, key, n, you, nil, api.ErrForm)
	for _, long := range []int{0, 1, 16, 31, 33, 64, 65, 256, 70000} {
		grantsNot(t, key, n, you, mac.New(some(long)), api.ErrForm)
	}
	grants(t, some(32), n, you, some(32))
}

func TestGrantedOfAWrongLength(t *testing.T) {
	n := window.Nonce{Boot: 1, Counter: 1}
	body := grants(t, some(32), n, you, some(32))
	for long := range 73 {
		for _, at := range append(wrongNonces(), n) {
			grantedNot(t, mac.New(some(32)), at, body[:long], api.ErrEnd)
			grantedNot(t, mac.New(some(32)), at, make([]byte, long), api.ErrEnd)
		}
	}
	grantedNot(t, mac.New(some(32)), n, nil, api.ErrEnd)
	for _, more := range []int{1, 2, 32, 73, 512, 70000} {
		for _, at := range append(wrongNonces(), n) {
			grantedNot(t, mac.New(some(32)), at, append(bytes.Clone(body), make([]byte, more)...), api.ErrForm)
		}
	}
	granted(t, some(32), n, body, you, some(32))
}

// Claims that aren't right are told ahead of the nonce, and of the tag.
func TestGrantedOfWrongClaims(t *testing.T) {
	n := window.Nonce{Boot: 1, Counter: 1}
	for _, c := range []claims.Claims{
		{Id: 0, Roles: 3, Expiry: 5, Serial: 7}, {Id: 258, Roles: 3, Expiry: 5, Serial: 0}, {Id: 258, Roles: 3, Expiry: 1<<30 + 1, Serial: 7}, {},
	} {
		for _, at := range append(wrongNonces(), n) {
			grantedNot(t, mac.New(some(32)), at, asGrant(some(32), n, c, some(32)), api.ErrForm)
			grantedNot(t, mac.New(some(31)), at, asGrant(some(32), n, c, some(32)), api.ErrForm)
		}
	}
}

func TestGrantedOfNoKey(t *testing.T) {
	n := window.Nonce{Boot: 1, Counter: 1}
	body := grants(t, some(32), n, you, some(32))
	for _, b := range [][]byte{nil, body, body[:72], append(bytes.Clone(body), 0), make([]byte, 73)} {
		for _, at := range append(wrongNonces(), n) {
			grantedNot(t, nil, at, b, api.ErrArg)
		}
	}
}

// The nonce is told ahead of the tag.
func TestGrantedOfAWrongNonce(t *testing.T) {
	body := grants(t, some(32), window.Nonce{Boot: 1, Counter: 1}, you, some(32))
	for _, at := range wrongNonces() {
		grantedNot(t, mac.New(some(32)), at, body, api.ErrRange)
		grantedNot(t, mac.New(some(31)), at, body, api.ErrRange)
	}
}

func TestGrantedOfAnotherKeyOrNonce(t *testing.T) {
	n := window.Nonce{Boot: 258, Counter: 258}
	body := grants(t, some(32), n, you, some(32))
	for _, key := range sealers() {
		if !bytes.Equal(key, some(32)) {
			grantedNot(t, mac.New(key), n, body, api.ErrTag)
		}
	}
	for bit := range 256 {
		key := some(32)
		key[bit/8] ^= 1 << (bit % 8)
		grantedNot(t, mac.New(key), n, body, api.ErrTag)
	}
	for _, at := range []window.Nonce{{Boot: 257, Counter: 258}, {Boot: 258, Counter: 259}, {Boot: 259, Counter: 258}, {Boot: 2, Counter: 258}, {Boot: 258, Counter: 258 + 1<<24}} {
		grantedNot(t, mac.New(some(32)), at, body, api.ErrTag)
	}
}

// Where the claims' bytes are turned into such as aren't right, that is told.
func TestGrantedOfATurnedBody(t *testing.T) {
	n := window.Nonce{Boot: 258, Counter: 258}
	body := grants(t, some(32), n, you, some(32))
	for at := range body {
		for turn := 1; turn < 256; turn++ {
			b, want := bytes.Clone(body), api.ErrTag
			b[at] ^= byte(turn)
			if _, e := claims.Parse(b[:9]); e != api.OK {
				want = api.ErrForm
			}
			grantedNot(t, mac.New(some(32)), n, b, want)
		}
	}
	granted(t, some(32), n, body, you, some(32))
}

// A key can't be told as another sender's.
func TestGrantedOfAnothersClaims(t *testing.T) {
	n := window.Nonce{Boot: 1, Counter: 1}
	body := grants(t, some(32), n, you, asSender(you, me.Id))
	for _, c := range append(others, me) {
		grantedNot(t, mac.New(some(32)), n, append(asClaims(c), body[9:]...), api.ErrTag)
	}
}

// P16.3: what is handed in is neither changed nor kept.

func TestGrantLeavesWhatItIsHanded(t *testing.T) {
	n := window.Nonce{Boot: 1, Counter: 1}
	key, k := mac.New(some(32)), mac.New(some(32))
	first, _ := Grant(key, n, you, k)
	second, _ := Grant(key, n, you, k)
	if !bytes.Equal(key.Bytes(), some(32)) || !bytes.Equal(k.Bytes(), some(32)) {
		t.Error("the keys are changed")
	}
	clear(first[:cap(first)])
	if !bytes.Equal(second, asGrant(some(32), n, you, some(32))) {
		t.Error("two answers share")
	}
}

func TestGrantedLeavesWhatItIsHanded(t *testing.T) {
	n := window.Nonce{Boot: 1, Counter: 1}
	body := append(asGrant(some(32), n, you, some(32)), some(50)...)
	before, key := bytes.Clone(body), mac.New(some(32))
	_, k, e := Granted(key, n, body[:73])
	grantedNot(t, mac.New(some(31)), n, body[:73], api.ErrTag)
	if e != api.OK || !bytes.Equal(body, before) || !bytes.Equal(key.Bytes(), some(32)) {
		t.Error("changed", e)
	}
	clear(body)
	*key = mac.Key{}
	if !bytes.Equal(k.Bytes(), some(32)) {
		t.Error("shared")
	}
	if !slices.Equal(before[73:], some(50)) {
		t.Error("changed")
	}
}
