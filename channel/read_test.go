package channel

import (
	"bytes"
	"reflect"
	"slices"
	"strings"
	"testing"

	"vigil/api"
	"vigil/claims"
	"vigil/drops"
	"vigil/mac"
	"vigil/packet"
	"vigil/revoke"
	"vigil/window"
)

// seedPacket is one from a seed to me, that is right.
func seedPacket(kind, seed, boot, counter int) packet.Packet {
	return packet.Packet{Kind: kind, From: me, To: seed, Nonce: window.Nonce{Boot: boot, Counter: counter}, Body: []byte("from a seed")}
}

// ping is one from another member to me, that is right.
func ping(from claims.Claims, boot, counter int) packet.Packet {
	return packet.Packet{Kind: packet.Ping, From: from, To: me.Id, Nonce: window.Nonce{Boot: boot, Counter: counter}, Body: []byte("hello")}
}

// revoking is a set in which these serials are revoked, by the seeds in turn.
func revoking(t *testing.T, serials ...int) *revoke.Set {
	t.Helper()
	s := revoke.New()
	for i, serial := range serials {
		if e := s.Revoke(i%4, serial); e != api.OK {
			t.Fatal(e)
		}
	}
	return s
}

// P16.2: bytes that are no packet.

func TestReadOfNoPacket(t *testing.T) {
	c := made(t, me, 1)
	knows(t, c, you)
	whole := asBytes(ping(you, 1, 1), asSender(you, me.Id))
	for n := range whole {
		dropsIt(t, c, whole[:n], 5, nil, api.ErrEnd)
	}
	dropsIt(t, c, nil, 5, nil, api.ErrEnd)
	dropsIt(t, c, append(bytes.Clone(whole), 0), 5, nil, api.ErrForm)
	dropsIt(t, c, append(bytes.Clone(whole), whole...), 5, nil, api.ErrForm)
	dropsIt(t, c, make([]byte, 1025), 5, nil, api.ErrLong)
	dropsIt(t, c, append(bytes.Clone(whole), make([]byte, 70000)...), 5, nil, api.ErrLong)
	dropsIt(t, c, make([]byte, 1024), 5, nil, api.ErrKind)
	for _, kind := range []byte{0, 15, 16, 255} {
		b := bytes.Clone(whole)
		b[0] = kind
		dropsIt(t, c, b, 5, nil, api.ErrKind)
		dropsIt(t, c, append(b, 0), 5, nil, api.ErrKind)
	}
	for at, want := range map[int]api.Errno{1: api.ErrForm, 8: api.ErrForm, 12: api.ErrForm} { // the identity, the serial, the boot
		b := bytes.Clone(whole)
		b[at], b[at+1] = 0, 0
		dropsIt(t, c, b, 5, nil, want)
	}
	takes(t, c, ping(you, 1, 1), asSender(you, me.Id), 5, nil)
}

// A Cookie that has a tag is none.
func TestReadOfACookieWithATag(t *testing.T) {
	c := made(t, me, 1)
	b := asBytes(seedPacket(packet.Cookie, 2, 1, 1), nil)
	copy(b[len(b)-32:], tagOf(asSeed(me, 2), b[:len(b)-32]))
	dropsIt(t, c, b, 5, nil, api.ErrForm)
	b = asBytes(seedPacket(packet.Cookie, 2, 1, 1), nil)
	b[len(b)-1] = 1
	dropsIt(t, c, b, 5, nil, api.ErrForm)
}

// P16.2: kinds up.

// Whoever they are from, and wherever to, they are for seeds.
func TestReadOfAKindUp(t *testing.T) {
	c, d := made(t, me, 1), made(t, you, 1)
	knows(t, c, you)
	for _, kind := range ups {
		for _, from := range []claims.Claims{me, you, others[0]} {
			for _, to := range []int{0, 3, 4, me.Id} {
				for _, key := range [][]byte{asSeed(from, 0), asSeed(from, 3), asSender(from, me.Id), some(32)} {
					p := packet.Packet{Kind: kind, From: from, To: to, Nonce: window.Nonce{Boot: 1, Counter: 1}}
					dropsIt(t, c, asBytes(p, key), 5, nil, api.ErrKind)
					dropsIt(t, c, asBytes(p, key), 1<<30, revoking(t, from.Serial), api.ErrKind)
				}
			}
		}
		b, e := d.Write(kind, 2, some(kind))
		if e != api.OK {
			t.Error(e)
		}
		dropsIt(t, c, b, 5, nil, api.ErrKind)
		dropsIt(t, d, b, 5, nil, api.ErrKind)
	}
}

// P16.2: kinds down.

func TestReadOfAKindDown(t *testing.T) {
	c := made(t, me, 1)
	counter := 0
	for _, seed := range seeds {
		for _, kind := range downs {
			for _, n := range []int{0, 1, 73, 512} {
				counter++
				p := seedPacket(kind, seed, 7, counter)
				p.Body = some(n)
				takes(t, c, p, asSeed(me, seed), 5, nil)
			}
		}
	}
	if c.Drops().Total() != 0 || c.Book().Len() != 0 {
		t.Error(c.Drops().All())
	}
}

// Neither the tick nor what is revoked counts: it is the own token that would have gone.
func TestReadOfAKindDownAtAnyTick(t *testing.T) {
	for i, tick := range append(ticks, 499, 500, 501) {
		c := made(t, me, 1)
		for _, revoked := range []*revoke.Set{nil, {}, revoking(t, me.Serial)} {
			for j, kind := range downs {
				takes(t, c, seedPacket(kind, j, i+1, 9), asSeed(me, j), tick, revoked)
			}
			c.windows = [4]window.Window{}
		}
	}
}

func TestReadOfAKindDownOfOtherClaims(t *testing.T) {
	c := made(t, me, 1)
	knows(t, c, you)
	for _, from := range []claims.Claims{
		you, others[0], {Id: 259, Roles: 3, Expiry: 500, Serial: 7}, {Id: 258, Roles: 2, Expiry: 500, Serial: 7},
		{Id: 258, Roles: 3, Expiry: 501, Serial: 7}, {Id: 258, Roles: 3, Expiry: 500, Serial: 8},
	} {
		for _, kind := range downs {
			for _, key := range [][]byte{asSeed(me, 1), asSeed(from, 1), asSender(from, me.Id)} {
				p := seedPacket(kind, 1, 1, 1)
				p.From = from
				dropsIt(t, c, asBytes(p, key), 5, nil, api.ErrArg)
			}
		}
	}
}

func TestReadOfAKindDownOfNoSeed(t *testing.T) {
	c := made(t, me, 1)
	for _, to := range []int{4, 5, 255, 256, me.Id, 65532, 65535} {
		for _, kind := range downs {
			dropsIt(t, c, asBytes(seedPacket(kind, to, 1, 1), asSeed(me, 3)), 5, nil, api.ErrArg)
			dropsIt(t, c, asBytes(seedPacket(kind, to, 1, 1), asSeed(me, to)), 5, nil, api.ErrArg)
			dropsIt(t, c, asBytes(seedPacket(kind, to, 1, 1), asSeed(me, to&3)), 5, nil, api.ErrArg)
		}
	}
}

// tagless is bytes whose tag is turned, at each of its bits.
func tagless(b []byte) [][]byte {
	var l [][]byte
	for bit := range 256 {
		x := bytes.Clone(b)
		x[len(x)-32+bit/8] ^= 1 << (bit % 8)
		l = append(l, x)
	}
	return append(l, append(bytes.Clone(b[:len(b)-32]), make([]byte, 32)...))
}

func TestReadOfATurnedTag(t *testing.T) {
	c := made(t, me, 1)
	knows(t, c, you)
	for _, kind := range downs[1:] {
		b := asBytes(seedPacket(kind, 2, 1, 1), asSeed(me, 2))
		for _, x := range tagless(b) {
			dropsIt(t, c, x, 5, nil, api.ErrTag)
		}
		takes(t, c, seedPacket(kind, 2, 1, kind), asSeed(me, 2), 5, nil)
	}
	for _, kind := range sides {
		p := ping(you, 1, kind)
		p.Kind = kind
		for _, x := range tagless(asBytes(p, asSender(you, me.Id))) {
			dropsIt(t, c, x, 5, nil, api.ErrTag)
		}
		takes(t, c, p, asSender(you, me.Id), 5, nil)
	}
}

// Whatever byte of the head is turned, the packet isn't taken; and it isn't told to be
// anything else than its head says.
func TestReadOfATurnedHead(t *testing.T) {
	c := made(t, me, 1)
	knows(t, c, you)
	for _, b := range [][]byte{
		asBytes(seedPacket(packet.Grant, 2, 1, 1), asSeed(me, 2)), asBytes(ping(you, 1, 1), asSender(you, me.Id)),
	} {
		for at := range len(b) - 32 {
			for turn := 1; turn < 256; turn += 7 {
				x := bytes.Clone(b)
				x[at] ^= byte(turn)
				if x[0] == packet.Cookie {
					continue
				}
				before := seen(c)
				if p, e := c.Read(x, 5, nil); e == api.OK || !isNone(p) || !reflect.DeepEqual(seen(c), before) {
					t.Errorf("byte %d turned by %d: %v, %d", at, turn, p, e)
				}
			}
		}
	}
}

func TestReadUnderAnotherKey(t *testing.T) {
	c := made(t, me, 1)
	knows(t, c, you)
	knows(t, c, others[0])
	for _, kind := range downs[1:] {
		for _, seed := range seeds {
			for _, key := range [][]byte{
				asSeed(me, (seed+1)%4), asSeed(me, (seed+2)%4), asSeed(me, (seed+3)%4), asSeed(you, seed), asSender(me, seed), asSender(me, me.Id),
				derived([]byte(master), "token", asClaims(me)), []byte(master), nil, some(32),
			} {
				dropsIt(t, c, asBytes(seedPacket(kind, seed, 1, 1), key), 5, nil, api.ErrTag)
			}
			takes(t, c, seedPacket(kind, seed, 1, kind), asSeed(me, seed), 5, nil)
		}
	}
	for _, key := range [][]byte{
		asSender(you, me.Id+1), asSender(others[0], me.Id), asSender(me, you.Id), asSender(me, me.Id), asSeed(you, 0),
		derived([]byte(master), "token", asClaims(you)), []byte(master), nil, some(32),
	} {
		dropsIt(t, c, asBytes(ping(you, 1, 1), key), 5, nil, api.ErrTag)
	}
	takes(t, c, ping(you, 1, 1), asSender(you, me.Id), 5, nil)
}

// Each seed has a window of its own, whatever kinds it sends.
func TestReadOfASeedsNonces(t *testing.T) {
	c := made(t, me, 1)
	admit := func(seed, boot, counter int) []byte {
		return asBytes(seedPacket(packet.Admit, seed, boot, counter), asSeed(me, seed))
	}
	for _, seed := range seeds {
		for n, at := range []window.Nonce{{Boot: 7, Counter: 100}, {Boot: 7, Counter: 37}, {Boot: 7, Counter: 101}, {Boot: 7, Counter: 99}} {
			takes(t, c, seedPacket(downs[1+n%3], seed, at.Boot, at.Counter), asSeed(me, seed), 5, nil)
		}
		for _, kind := range downs[1:] {
			for _, counter := range []int{100, 101, 99} {
				dropsIt(t, c, asBytes(seedPacket(kind, seed, 7, counter), asSeed(me, seed)), 5, nil, api.ErrTwice)
			}
			dropsIt(t, c, asBytes(seedPacket(kind, seed, 7, 37), asSeed(me, seed)), 5, nil, api.ErrOld)
		}
		dropsIt(t, c, admit(seed, 7, 1), 5, nil, api.ErrOld)
		dropsIt(t, c, admit(seed, 6, 1<<31-1), 5, nil, api.ErrOld)
		takes(t, c, seedPacket(packet.Admit, seed, 7, 38), asSeed(me, seed), 5, nil)
		takes(t, c, seedPacket(packet.Admit, seed, 8, 1), asSeed(me, seed), 5, nil)
		dropsIt(t, c, admit(seed, 7, 200), 5, nil, api.ErrOld)
		dropsIt(t, c, admit(seed, 8, 1), 5, nil, api.ErrTwice)
		takes(t, c, seedPacket(packet.Admit, seed, 65535, 1<<31-1), asSeed(me, seed), 5, nil)
		dropsIt(t, c, admit(seed, 65535, 1<<31-1), 5, nil, api.ErrTwice)
		dropsIt(t, c, admit(seed, 65535, 1<<31-65), 5, nil, api.ErrOld)
		takes(t, c, seedPacket(packet.Admit, seed, 65535, 1<<31-64), asSeed(me, seed), 5, nil)
	}
}

// A Cookie is taken with any nonce, and again, and leaves the seed's window as it was.
func TestReadOfACookiesNonce(t *testing.T) {
	c := made(t, me, 1)
	takes(t, c, seedPacket(packet.Admit, 1, 7, 100), asSeed(me, 1), 5, nil)
	before := seen(c)
	for range 2 {
		for _, n := range []window.Nonce{{Boot: 7, Counter: 100}, {Boot: 7, Counter: 99}, {Boot: 7, Counter: 1}, {Boot: 1, Counter: 1}, {Boot: 65535, Counter: 1<<31 - 1}} {
			for _, seed := range seeds {
				takes(t, c, seedPacket(packet.Cookie, seed, n.Boot, n.Counter), nil, 5, nil)
			}
		}
	}
	if !reflect.DeepEqual(seen(c), before) {
		t.Error("changed")
	}
	dropsIt(t, c, asBytes(seedPacket(packet.Admit, 1, 7, 100), asSeed(me, 1)), 5, nil, api.ErrTwice)
	takes(t, c, seedPacket(packet.Admit, 1, 7, 99), asSeed(me, 1), 5, nil)
}

// P16.2: kinds between members.

func TestReadBetweenMembers(t *testing.T) {
	c := made(t, me, 1)
	for _, from := range append(others, you) {
		knows(t, c, from)
		for i, kind := range sides {
			for j, n := range []int{0, 1, 255, 512} {
				p := ping(from, 3, 1+4*i+j)
				p.Kind, p.Body = kind, some(n)
				takes(t, c, p, asSender(from, me.Id), 5, nil)
				dropsIt(t, c, asBytes(p, asSender(from, me.Id)), 5, nil, api.ErrTwice)
			}
		}
	}
}

func TestReadOfAnotherPlace(t *testing.T) {
	c := made(t, me, 1)
	knows(t, c, you)
	for _, to := range []int{0, 1, 3, 257, 259, you.Id, 65535} {
		for _, kind := range sides {
			p := ping(you, 1, 1)
			p.Kind, p.To = kind, to
			for _, key := range [][]byte{asSender(you, to), asSender(you, me.Id)} {
				dropsIt(t, c, asBytes(p, key), 5, nil, api.ErrArg)
			}
		}
	}
}

// What has the own identity is from nobody else: neither what it wrote itself, nor what
// another token of it, that was known, would have written.
func TestReadOfTheOwnIdentity(t *testing.T) {
	for _, from := range []claims.Claims{me, {Id: me.Id, Roles: 255, Expiry: 1 << 30, Serial: 300}} {
		c := made(t, me, 1)
		dropsIt(t, c, asBytes(ping(from, 1, 1), asSender(from, me.Id)), 5, nil, api.ErrArg)
		knows(t, c, from)
		for _, kind := range sides {
			p := ping(from, 1, 1)
			p.Kind = kind
			dropsIt(t, c, asBytes(p, asSender(from, me.Id)), 5, nil, api.ErrArg)
		}
	}
	c := made(t, me, 1)
	b, e := c.Write(packet.Ping, me.Id, nil)
	if e != api.OK {
		t.Error(e)
	}
	dropsIt(t, c, b, 5, nil, api.ErrArg)
}

func TestReadOfWhoIsExpired(t *testing.T) {
	for _, from := range append(others, you) {
		for _, kind := range sides {
			c := made(t, me, 1)
			knows(t, c, from)
			p := ping(from, 1, 1)
			p.Kind = kind
			b := asBytes(p, asSender(from, me.Id))
			for _, tick := range []int{from.Expiry, from.Expiry + 1, from.Expiry + 1000, 1<<62 + 7} {
				dropsIt(t, c, b, tick, nil, api.ErrGone)
			}
			takes(t, c, p, asSender(from, me.Id), from.Expiry-1, nil)
			dropsIt(t, c, b, from.Expiry-1, nil, api.ErrTwice)
			dropsIt(t, c, b, from.Expiry, nil, api.ErrGone)
		}
	}
	never := claims.Claims{Id: 77, Expiry: 0, Serial: 77}
	c := made(t, me, 1)
	knows(t, c, never)
	dropsIt(t, c, asBytes(ping(never, 1, 1), asSender(never, me.Id)), 0, nil, api.ErrGone)
}

// The own expiry, and whether the own serial is revoked, aren't looked at.
func TestReadOfWhoIsExpiredOneself(t *testing.T) {
	late := claims.Claims{Id: 77, Expiry: 1 << 30, Serial: 77}
	c := made(t, me, 1)
	knows(t, c, late)
	takes(t, c, ping(late, 1, 1), asSender(late, me.Id), me.Expiry, nil)
	takes(t, c, ping(late, 1, 2), asSender(late, me.Id), me.Expiry+1, revoking(t, me.Serial))
}

func TestReadOfWhoIsRevoked(t *testing.T) {
	for seed := range 4 {
		for _, kind := range sides {
			c := made(t, me, 1)
			knows(t, c, you)
			s := revoke.New()
			p := ping(you, 1, 1)
			p.Kind = kind
			s.Revoke(seed, you.Serial+1, you.Serial-1, you.Id+1000)
			takes(t, c, p, asSender(you, me.Id), 5, s)
			p.Nonce.Counter = 2
			s.Revoke(seed, you.Serial)
			print := s.Print()
			dropsIt(t, c, asBytes(p, asSender(you, me.Id)), 5, s, api.ErrGone)
			dropsIt(t, c, asBytes(p, asSender(you, me.Id)), you.Expiry, s, api.ErrGone)
			if s.Print() != print {
				t.Error("the set is changed")
			}
			takes(t, c, p, asSender(you, me.Id), 5, nil) // the set isn't kept
		}
	}
}

func TestReadWithoutASet(t *testing.T) {
	for _, revoked := range []*revoke.Set{nil, {}, revoke.New()} {
		c := made(t, me, 1)
		knows(t, c, you)
		takes(t, c, ping(you, 1, 1), asSender(you, me.Id), 5, revoked)
	}
}

func TestReadOfWhoHasNoKey(t *testing.T) {
	c := made(t, me, 1)
	b := asBytes(ping(you, 1, 1), asSender(you, me.Id))
	dropsIt(t, c, b, 5, nil, api.ErrNone)
	for _, like := range []claims.Claims{
		{Id: 9, Roles: 5, Expiry: 100, Serial: 8}, {Id: 9, Roles: 4, Expiry: 101, Serial: 8},
		{Id: 9, Roles: 4, Expiry: 100, Serial: 9}, {Id: 8, Roles: 4, Expiry: 100, Serial: 8},
	} {
		knows(t, c, like)
		dropsIt(t, c, b, 5, nil, api.ErrNone)
	}
	c.Book().Want(you, 5)
	dropsIt(t, c, b, 5, nil, api.ErrState)
	dropsIt(t, c, b[:56], 5, nil, api.ErrEnd)
	c.Book().Put(you, mac.New(asSender(you, me.Id)))
	takes(t, c, ping(you, 1, 1), asSender(you, me.Id), 5, nil)
	c.Book().Drop(you)
	dropsIt(t, c, asBytes(ping(you, 1, 2), asSender(you, me.Id)), 5, nil, api.ErrNone)
	if n := c.Drops().All(); n != [16]int{7: 6, 11: 1, 4: 1} {
		t.Error(n)
	}
}

// Each sender has a window of its own, whatever kinds it sends.
func TestReadOfAMembersNonces(t *testing.T) {
	c := made(t, me, 1)
	for _, from := range append(others, you) {
		knows(t, c, from)
		key := asSender(from, me.Id)
		for n, counter := range []int{100, 37, 101, 99} {
			p := ping(from, 7, counter)
			p.Kind = sides[n]
			takes(t, c, p, key, 5, nil)
		}
		for _, kind := range sides {
			for counter, want := range map[int]api.Errno{100: api.ErrTwice, 101: api.ErrTwice, 99: api.ErrTwice, 37: api.ErrOld, 1: api.ErrOld} {
				p := ping(from, 7, counter)
				p.Kind = kind
				dropsIt(t, c, asBytes(p, key), 5, nil, want)
			}
		}
		dropsIt(t, c, asBytes(ping(from, 6, 500), key), 5, nil, api.ErrOld)
		takes(t, c, ping(from, 8, 1), key, 5, nil)
		dropsIt(t, c, asBytes(ping(from, 7, 102), key), 5, nil, api.ErrOld)
		takes(t, c, ping(from, 65535, 1<<31-1), key, 5, nil)
		dropsIt(t, c, asBytes(ping(from, 65535, 1<<31-1), key), 5, nil, api.ErrTwice)
	}
}

// P16.2: which error comes first.

// A scene is a packet, and all that it is looked at by.
type scene struct {
	p       packet.Packet
	key     []byte
	turned  bool
	tick    int
	revoked *revoke.Set
	book    string
	taken   window.Nonce
}

// A fault is how something isn't right, and what Read tells then.
type fault struct {
	name string
	make func(s *scene)
	want api.Errno
}

// read has a channel, on which nothing else was done, read the scene's bytes.
func (s scene) read(t *testing.T, want api.Errno, names ...string) {
	t.Helper()
	c := made(t, me, 1)
	if s.book != "none" {
		c.Book().Want(s.p.From, 5)
	}
	if s.book == "known" {
		c.Book().Put(s.p.From, mac.New(s.key))
		c.Book().Take(s.p.From, s.taken)
	}
	if Way(s.p.Kind) == Down && s.p.To < 4 {
		c.windows[s.p.To].Take(s.taken)
	}
	b := asBytes(s.p, s.key)
	if s.turned {
		b[len(b)-1] ^= 128
	}
	before, counts := seen(c), [16]int{}
	p, e := c.Read(b, s.tick, s.revoked)
	if e != want || isNone(p) != (want != api.OK) {
		t.Errorf("%s: %v, %d, not %d", strings.Join(names, ", "), p, e, want)
	}
	if want != api.OK {
		counts[want] = 1
	}
	if c.Drops().All() != counts || reflect.DeepEqual(seen(c), before) == (want == api.OK) {
		t.Errorf("%s: %v", strings.Join(names, ", "), c.Drops().All())
	}
}

// all has every choice of these faults read: the first of them is told.
func all(t *testing.T, base func() scene, faults []fault) {
	t.Helper()
	for choice := range 1 << len(faults) {
		s, want, names := base(), api.OK, []string{}
		for i, f := range faults {
			if choice>>i&1 == 0 {
				continue
			}
			f.make(&s)
			names = append(names, f.name)
			if want == api.OK {
				want = f.want
			}
		}
		s.read(t, want, names...)
	}
}

func TestWhichErrorOfAKindDownIsFirst(t *testing.T) {
	for _, kind := range downs[1:] {
		base := func() scene {
			return scene{p: seedPacket(kind, 1, 3, 50), key: asSeed(me, 1), tick: 5, taken: window.Nonce{Boot: 3, Counter: 7}}
		}
		wrong := []fault{
			{"another's claims", func(s *scene) { s.p.From = you }, api.ErrArg},
			{"no seed", func(s *scene) { s.p.To = 4 }, api.ErrArg},
			{"turned", func(s *scene) { s.turned = true }, api.ErrTag},
		}
		all(t, base, append(wrong, fault{"taken", func(s *scene) { s.taken = s.p.Nonce }, api.ErrTwice}))
		all(t, base, append(wrong, fault{"old", func(s *scene) { s.taken = window.Nonce{Boot: 3, Counter: 114} }, api.ErrOld}))
		all(t, base, append(wrong, fault{"of a boot before", func(s *scene) { s.taken = window.Nonce{Boot: 4, Counter: 1} }, api.ErrOld}))
	}
}

func TestWhichErrorBetweenMembersIsFirst(t *testing.T) {
	for _, kind := range sides {
		base := func() scene {
			p := ping(you, 3, 50)
			p.Kind = kind
			return scene{p: p, key: asSender(you, me.Id), tick: 99, book: "known", taken: window.Nonce{Boot: 3, Counter: 7}}
		}
		wrong := []fault{
			{"another place", func(s *scene) { s.p.To = 300 }, api.ErrArg},
			{"the own identity", func(s *scene) { s.p.From.Id = me.Id }, api.ErrArg},
			{"expired", func(s *scene) { s.tick = 100 }, api.ErrGone},
			{"revoked", func(s *scene) { s.revoked = revoking(t, 3, you.Serial) }, api.ErrGone},
		}
		none := fault{"no entry", func(s *scene) { s.book = "none" }, api.ErrNone}
		wanted := fault{"wanted", func(s *scene) { s.book = "wanted" }, api.ErrState}
		turned := fault{"turned", func(s *scene) { s.turned = true }, api.ErrTag}
		taken := fault{"taken", func(s *scene) { s.taken = s.p.Nonce }, api.ErrTwice}
		old := fault{"old", func(s *scene) { s.taken = window.Nonce{Boot: 3, Counter: 114} }, api.ErrOld}
		for _, entry := range []fault{none, wanted} {
			for _, nonce := range []fault{taken, old} {
				all(t, base, append(slices.Clone(wrong), entry, turned, nonce))
			}
		}
	}
}

// The errors of bytes that are no packet, and of a kind up, come ahead of all others.
func TestWhichErrorOfAnyWayIsFirst(t *testing.T) {
	c := made(t, me, 1)
	for _, kind := range slices.Concat(downs, sides) {
		p := packet.Packet{Kind: kind, From: you, To: 300, Nonce: window.Nonce{Boot: 1, Counter: 1}}
		b := asBytes(p, some(32))
		dropsIt(t, c, append(bytes.Clone(b), 0), 1<<30, revoking(t, you.Serial), api.ErrForm)
		dropsIt(t, c, b[:len(b)-1], 1<<30, revoking(t, you.Serial), api.ErrEnd)
		dropsIt(t, c, append(bytes.Clone(b), make([]byte, 1024)...), 1<<30, nil, api.ErrLong)
		dropsIt(t, c, b, 1<<30, revoking(t, you.Serial), api.ErrArg)
	}
	for _, kind := range ups {
		p := packet.Packet{Kind: kind, From: you, To: 300, Nonce: window.Nonce{Boot: 1, Counter: 1}}
		dropsIt(t, c, append(asBytes(p, some(32)), 0), 5, nil, api.ErrForm)
		dropsIt(t, c, asBytes(p, some(32)), 1<<30, revoking(t, you.Serial), api.ErrKind)
	}
}

// P16.2: drops.

// A count that is at its top stays there, and what isn't taken is told all the same.
func TestDropsAtTheirTop(t *testing.T) {
	c := made(t, me, 1)
	most, e := drops.New(1<<31 - 1)
	if e != api.OK {
		t.Fatal(e)
	}
	most.Count(api.ErrEnd)
	for range 31 { // twice as many each time
		if e := most.Join(most.Copy()); e != api.OK {
			t.Fatal(e)
		}
	}
	if e := c.Drops().Join(most); e != api.OK {
		t.Error("the channel's drops have another top:", e)
	}
	for range 3 {
		if _, e := c.Read(nil, 5, nil); e != api.ErrEnd || c.Drops().Of(api.ErrEnd) != 1<<31-1 {
			t.Error(e, c.Drops().All())
		}
	}
}

func TestWhatIsHandedToReadIsNotChangedAndNotKept(t *testing.T) {
	for _, kind := range slices.Concat(downs, sides) {
		c := made(t, me, 1)
		knows(t, c, you)
		p, key := seedPacket(kind, 2, 1, 9), asSeed(me, 2)
		if Way(kind) == Side {
			p, key = ping(you, 1, 9), asSender(you, me.Id)
			p.Kind = kind
		}
		b := append(asBytes(p, key), some(20)...)
		before := bytes.Clone(b)
		q, e := c.Read(b[:len(b)-20], 5, nil)
		if e != api.OK || !bytes.Equal(b, before) {
			t.Error(kind, e)
		}
		clear(b)
		if !bytes.Equal(q.Body, p.Body) {
			t.Error(kind, "shared")
		}
		clear(q.Body[:cap(q.Body)])
		if !bytes.Equal(p.Body, ping(you, 1, 1).Body) && !bytes.Equal(p.Body, seedPacket(2, 1, 1, 1).Body) {
			t.Error(kind, "changed")
		}
	}
}
