package channel

import (
	"bytes"
	"crypto/hmac"
	"crypto/sha256"
	"encoding/binary"
	"encoding/hex"
	"math"
	"reflect"
	"slices"
	"testing"

	"vigil/api"
	"vigil/claims"
	"vigil/drops"
	"vigil/keys"
	"vigil/mac"
	"vigil/packet"
	"vigil/revoke"
	"vigil/token"
	"vigil/window"
)

// some is so many bytes, no two neighbours of which are the same.
func some(n int) []byte {
	b := make([]byte, n)
	for i := range b {
		b[i] = byte(i*37 + i/64*11 + 5)
	}
	return b
}

var (
	ups   = []int{1, 3, 5, 11, 14}
	downs = []int{2, 4, 6, 12}
	sides = []int{7, 8, 9, 10, 13}

	noKinds  = []int{0, -1, -7, 15, 16, 255, 256, 257, 263, 1 << 16, 1<<32 + 7, math.MinInt, math.MinInt + 7, math.MaxInt}
	seeds    = []int{0, 1, 2, 3}
	noSeeds  = []int{-1, -4, 4, 5, 255, 256, 257, 65535, 65536, 1 << 32, math.MinInt, math.MaxInt}
	people   = []int{1, 2, 3, 4, 255, 256, 258, 32768, 65534, 65535}
	noPeople = []int{0, -1, -256, -65535, 65536, 65537, 1<<32 + 9, math.MinInt, math.MaxInt}
	boots    = []int{1, 2, 255, 256, 258, 65534, 65535}
	noBoots  = []int{0, -1, -65535, 65536, 65537, 1 << 32, 1<<32 + 1, math.MinInt, math.MaxInt}
	ticks    = []int{0, 5, 1 << 30, -1, math.MinInt, math.MaxInt}
)

// right is claims at the ends of their limits and within them.
func right() []claims.Claims {
	var out []claims.Claims
	for _, id := range []int{1, 258, 65535} {
		for _, mask := range []int{0, 3, 255} {
			for _, expiry := range []int{0, 5, 1 << 30} {
				for _, serial := range []int{1, 256, 65535} {
					out = append(out, claims.Claims{Id: id, Roles: mask, Expiry: expiry, Serial: serial})
				}
			}
		}
	}
	return out
}

// wrong is claims of which a number, or all of them, isn't within its limits.
func wrong() []claims.Claims {
	return []claims.Claims{
		{}, {Id: 0, Roles: 3, Expiry: 5, Serial: 7}, {Id: -1, Roles: 3, Expiry: 5, Serial: 7}, {Id: 65536, Roles: 3, Expiry: 5, Serial: 7},
		{Id: 258, Roles: -1, Expiry: 5, Serial: 7}, {Id: 258, Roles: 256, Expiry: 5, Serial: 7},
		{Id: 258, Roles: 3, Expiry: -1, Serial: 7}, {Id: 258, Roles: 3, Expiry: 1<<30 + 1, Serial: 7},
		{Id: 258, Roles: 3, Expiry: 5, Serial: 0}, {Id: 258, Roles: 3, Expiry: 5, Serial: -1}, {Id: 258, Roles: 3, Expiry: 5, Serial: 65536},
		{Id: math.MinInt, Roles: math.MinInt, Expiry: math.MinInt, Serial: math.MinInt},
		{Id: math.MaxInt, Roles: math.MaxInt, Expiry: math.MaxInt, Serial: math.MaxInt},
	}
}

func wrongNonces() []window.Nonce {
	return []window.Nonce{
		{}, {Boot: 0, Counter: 9}, {Boot: -1, Counter: 9}, {Boot: 65536, Counter: 9},
		{Boot: 7, Counter: 0}, {Boot: 7, Counter: -1}, {Boot: 7, Counter: 1 << 31}, {Boot: 7, Counter: 1<<32 + 9},
		{Boot: math.MinInt, Counter: math.MinInt}, {Boot: math.MaxInt, Counter: math.MaxInt},
	}
}

// Bytes, keys and tags by the library's own means.

func two(n int) []byte {
	return binary.BigEndian.AppendUint16(nil, uint16(n))
}

func four(n int) []byte {
	return binary.BigEndian.AppendUint32(nil, uint32(n))
}

func asClaims(c claims.Claims) []byte {
	return slices.Concat(two(c.Id), []byte{byte(c.Roles)}, four(c.Expiry), two(c.Serial))
}

func asNonce(n window.Nonce) []byte {
	return slices.Concat(two(n.Boot), four(n.Counter))
}

// asHead is what is tagged of a packet.
func asHead(p packet.Packet) []byte {
	return slices.Concat([]byte{byte(p.Kind)}, asClaims(p.From), two(p.To), asNonce(p.Nonce), two(len(p.Body)), p.Body)
}

// asBytes is a packet's, tagged under the key; a plain one has a tag of 0.
func asBytes(p packet.Packet, key []byte) []byte {
	if p.Kind <= 2 {
		return append(asHead(p), make([]byte, 32)...)
	}
	return append(asHead(p), tagOf(key, asHead(p))...)
}

func tagOf(key []byte, parts ...[]byte) []byte {
	h := hmac.New(sha256.New, key)
	for _, p := range parts {
		h.Write(p)
	}
	return h.Sum(nil)
}

func derived(key []byte, label string, parts ...[]byte) []byte {
	var text [][]byte
	for _, p := range append([][]byte{[]byte(label)}, parts...) {
		text = append(text, four(len(p)), p)
	}
	return tagOf(key, text...)
}

// sealed is the bytes sealed, of no more than two blocks.
func sealed(key, nonce, bound, b []byte) []byte {
	hide, bind := derived(key, "hide"), derived(key, "bind")
	var stream []byte
	for n := range 2 {
		stream = append(stream, tagOf(hide, []byte{byte(len(nonce))}, nonce, four(n))...)
	}
	body := slices.Clone(b)
	for i := range body {
		body[i] ^= stream[i]
	}
	return append(body, tagOf(bind, four(len(nonce)), nonce, four(len(bound)), bound, four(len(body)), body)...)
}

const master = "sixteen bytes 00"

// asSender is the key of who has these claims for a verifier.
func asSender(c claims.Claims, verifier int) []byte {
	return derived(derived([]byte(master), "token", asClaims(c)), "sender", two(verifier))
}

// asSeed is the key of who has these claims for a seed.
func asSeed(c claims.Claims, seed int) []byte {
	return derived(derived([]byte(master), "token", asClaims(c)), "seed", []byte{byte(seed)})
}

// issued is the token of these claims.
func issued(t testing.TB, c claims.Claims) token.Token {
	t.Helper()
	x, e := token.Make(mac.New([]byte(master)), c)
	if e != api.OK {
		t.Fatal(c, e)
	}
	return x
}

// made is the channel of these claims, at the boot.
func made(t testing.TB, c claims.Claims, boot int) *Channel {
	t.Helper()
	x, e := New(issued(t, c), boot)
	if e != api.OK || x == nil {
		t.Fatal(c, boot, e)
	}
	return x
}

// me is whose channel most tests look at; you and others are who writes to him.
var (
	me     = claims.Claims{Id: 258, Roles: 3, Expiry: 500, Serial: 7}
	you    = claims.Claims{Id: 9, Roles: 4, Expiry: 100, Serial: 8}
	others = []claims.Claims{{Id: 10, Expiry: 300, Serial: 9}, {Id: 65535, Roles: 255, Expiry: 1 << 30, Serial: 65535}, {Id: 1, Expiry: 50, Serial: 1}}
)

// knows has the channel granted the claims' key.
func knows(t testing.TB, c *Channel, who claims.Claims) {
	t.Helper()
	if e := c.Book().Want(who, 0); e != api.OK {
		t.Fatal(who, e)
	}
	if e := c.Book().Put(who, mac.New(asSender(who, c.own().Id))); e != api.OK {
		t.Fatal(who, e)
	}
}

// writes fails unless the channel's next packet is this one, tagged under the key.
func writes(t *testing.T, c *Channel, p packet.Packet, key []byte) {
	t.Helper()
	b, e := c.Write(p.Kind, p.To, p.Body)
	if e != api.OK || !bytes.Equal(b, asBytes(p, key)) {
		t.Errorf("kind %d to %d: %x, %d, not %x", p.Kind, p.To, b, e, asBytes(p, key))
	}
}

func refuses(t *testing.T, c *Channel, kind, to int, body []byte, want api.Errno) {
	t.Helper()
	if b, e := c.Write(kind, to, body); e != want || b != nil {
		t.Errorf("kind %d to %d, %d bytes: %x, %d, not %d", kind, to, len(body), b, e, want)
	}
}

// takes fails unless the channel takes the packet, tagged under the key, and counts no
// drop.
func takes(t *testing.T, c *Channel, p packet.Packet, key []byte, tick int, revoked *revoke.Set) {
	t.Helper()
	before, b := c.Drops().All(), asBytes(p, key)
	copy(p.Tag[:], b[len(b)-32:])
	q, e := c.Read(b, tick, revoked)
	if e != api.OK || !packet.Same(p, q) {
		t.Errorf("%v: %v, %d", p, q, e)
	}
	if c.Drops().All() != before {
		t.Errorf("%v: dropped", p)
	}
}

// isNone is whether a packet is the zero one.
func isNone(p packet.Packet) bool {
	return p.Body == nil && packet.Same(p, packet.Packet{})
}

// dropsIt fails unless the channel doesn't take the bytes for this reason, counts it, and
// is else as it was.
func dropsIt(t *testing.T, c *Channel, b []byte, tick int, revoked *revoke.Set, want api.Errno) {
	t.Helper()
	before, counts := seen(c), c.Drops().All()
	counts[want]++
	if p, e := c.Read(b, tick, revoked); e != want || !isNone(p) {
		t.Errorf("%x at %d: %v, %d, not %d", b, tick, p, e, want)
	}
	if got := c.Drops().All(); got != counts {
		t.Errorf("%x at %d: drops %v, not %v", b, tick, got, counts)
	}
	if !reflect.DeepEqual(seen(c), before) {
		t.Errorf("%x at %d: changed", b, tick)
	}
}

// state is all of a channel that isn't its drops, as far as it is to be seen.
type state struct {
	own            token.Token
	counter        window.Counter
	windows        [4]window.Window
	keys           map[int]string
	added          []claims.Claims
	known, wanted  []claims.Claims
	granted        map[claims.Claims]string
	looks          map[claims.Claims][]api.Errno
	boot, entering int
}

func seen(c *Channel) state {
	s := state{
		own: c.Ring().Own(), counter: window.Counter(*c.counter), windows: c.windows, added: c.Ring().Known(), boot: c.Boot(),
		known: c.Book().Known(), wanted: c.Book().Wanted(), entering: c.Book().Len(),
		keys: map[int]string{}, granted: map[claims.Claims]string{}, looks: map[claims.Claims][]api.Errno{},
	}
	for role := range 8 {
		k, _ := c.Ring().Label(role)
		s.keys[role] = string(k.Bytes())
	}
	for _, who := range s.known {
		k, _ := c.Book().Key(who)
		s.granted[who] = string(k.Bytes())
		for boot := range 4 {
			for counter := range 80 {
				s.looks[who] = append(s.looks[who], c.Book().Look(who, window.Nonce{Boot: boot, Counter: counter}))
			}
		}
	}
	return s
}

func TestTheNumbers(t *testing.T) {
	if Up != 1 || Down != 2 || Side != 3 {
		t.Error(Up, Down, Side)
	}
	c := made(t, me, 1)
	_, e := c.Write(2, 0, nil)
	_, f := c.Write(1, 4, nil)
	_, g := c.Write(1, 0, make([]byte, 513))
	_, h := (*Channel)(nil).Write(1, 0, nil)
	_, i := New(token.Token{}, 1)
	if e != 13 || f != 10 || g != 2 || h != 11 || i != 10 {
		t.Error(e, f, g, h, i)
	}
}

// Packets of one channel, and a grant's body, as another program works them out.
func TestKnownBytes(t *testing.T) {
	c := made(t, me, 3)
	known := func(text string, b []byte, e api.Errno) {
		t.Helper()
		if hex.EncodeToString(b) != text || e != api.OK {
			t.Errorf("%x, %d, not %s", b, e, text)
		}
	}
	b, e := c.Write(packet.Ping, 9, []byte("hi"))
	known("07010203000001f400070009000300000001000268699a12dbdaf761a40d77e369a5e4d8ad76f82588393108681531af1b5c6c9ca2bf", b, e)
	b, e = c.Write(packet.Want, 2, nil)
	known("05010203000001f40007000200030000000200003878a1949068670bf2ef814b86dc76426a30447dfd3513af9714e0f3cdacdce4", b, e)
	b, e = c.Write(packet.Hello, 3, nil)
	known("01010203000001f40007000300030000000300000000000000000000000000000000000000000000000000000000000000000000", b, e)
	b, e = Grant(mac.New(asSeed(me, 2)), window.Nonce{Boot: 3, Counter: 4}, you, mac.New(asSender(you, me.Id)))
	known("000904000000640008565f8fa5b83be414e09b7fcc4d5eb89ac9007d92a3df60691b429828f77b0f78d3b0d902efa9c9424c19426d8f66c712ca9f8c5f148ecb4ebca77222efd2d5be", b, e)
}

// P16.1: Way.

func TestWay(t *testing.T) {
	for way, kinds := range [][]int{noKinds, ups, downs, sides} {
		for _, kind := range kinds {
			if Way(kind) != way {
				t.Errorf("kind %d: %d, not %d", kind, Way(kind), way)
			}
		}
	}
	if len(ups)+len(downs)+len(sides) != packet.Leave {
		t.Error("not all kinds")
	}
}

// Kinds up and down are those of seeds, and the others between members.
func TestWayIsAsSeedsTells(t *testing.T) {
	for kind := 1; kind <= 14; kind++ {
		if packet.Seeds(kind) != (Way(kind) != Side) {
			t.Error(kind, Way(kind))
		}
	}
}

// P16.1: New, Ring, Book, Drops, Boot.

func TestNew(t *testing.T) {
	none, _ := drops.New(1<<31 - 1)
	for _, who := range right() {
		for _, boot := range boots {
			x := issued(t, who)
			c, e := New(x, boot)
			if e != api.OK || c == nil {
				t.Fatal(who, boot, e)
			}
			if c.Ring().Own() != x || c.Ring().Known() != nil || c.Book().Len() != 0 || !drops.Same(c.Drops(), none) || c.Boot() != boot {
				t.Error(who, boot)
			}
			if c.windows != [4]window.Window{} {
				t.Error(who, boot, c.windows)
			}
		}
	}
}

// Whether the token is one of the master key a channel can't tell, as it hasn't that.
func TestNewOfAnotherSecret(t *testing.T) {
	for _, secret := range [][32]byte{{}, {1}, [32]byte(some(32))} {
		x := token.Token{Claims: me, Secret: secret}
		c, e := New(x, 9)
		if e != api.OK || c.Ring().Own() != x {
			t.Error(e)
		}
		p := packet.Packet{Kind: 7, From: me, To: 9, Nonce: window.Nonce{Boot: 9, Counter: 1}}
		writes(t, c, p, derived(secret[:], "sender", two(9)))
	}
}

// Both errors have one number, so that which of them comes first isn't to be seen.
func TestNewOfWrongOnes(t *testing.T) {
	none := func(x token.Token, boot int) {
		t.Helper()
		if c, e := New(x, boot); c != nil || e != api.ErrRange {
			t.Errorf("%v, %d: %v, %d", x, boot, c, e)
		}
	}
	for _, who := range wrong() {
		for _, boot := range append(noBoots, boots...) {
			none(token.Token{Claims: who}, boot)
		}
	}
	for _, who := range right() {
		for _, boot := range noBoots {
			none(issued(t, who), boot)
		}
	}
}

func TestRingBookAndDropsAreItsOwn(t *testing.T) {
	c, d := made(t, me, 1), made(t, me, 1)
	knows(t, c, you)
	if e := c.Ring().Add(you, mac.New(some(32))); e != api.OK {
		t.Error(e)
	}
	if e := c.Ring().Learn(1, mac.New(some(32))); e != api.OK {
		t.Error(e)
	}
	c.Drops().Count(api.ErrQuota)
	if !slices.Equal(c.Ring().Known(), []claims.Claims{you}) || !slices.Equal(c.Book().Known(), []claims.Claims{you}) || c.Drops().Of(api.ErrQuota) != 1 {
		t.Error("what is put isn't there")
	}
	if k, e := c.Ring().Label(1); e != api.OK || !bytes.Equal(k.Bytes(), some(32)) {
		t.Error(e)
	}
	if c.Ring() != c.Ring() || c.Book() != c.Book() || c.Drops() != c.Drops() {
		t.Error("others each time")
	}
	if d.Ring().Known() != nil || d.Book().Len() != 0 || d.Drops().Total() != 0 {
		t.Error("two channels share them")
	}
}

// The book that is handed out is the one by which packets are looked at, and the drops
// those that Read counts.
func TestReadIsByTheBookThatIsHandedOut(t *testing.T) {
	c := made(t, me, 1)
	p := packet.Packet{Kind: packet.Ack, From: you, To: me.Id, Nonce: window.Nonce{Boot: 5, Counter: 5}}
	b := asBytes(p, asSender(you, me.Id))
	dropsIt(t, c, b, 5, nil, api.ErrNone)
	knows(t, c, you)
	if e := c.Book().Take(you, p.Nonce); e != api.OK {
		t.Error(e)
	}
	dropsIt(t, c, b, 5, nil, api.ErrTwice)
	p.Nonce.Counter = 6
	takes(t, c, p, asSender(you, me.Id), 5, nil)
	if e := c.Book().Look(you, p.Nonce); e != api.ErrTwice {
		t.Error(e)
	}
	c.Book().Drop(you)
	dropsIt(t, c, b, 5, nil, api.ErrNone)
	if c.Drops().Of(api.ErrNone) != 2 || c.Drops().Of(api.ErrTwice) != 1 || c.Drops().Total() != 3 {
		t.Error(c.Drops().All())
	}
}

// A grant into the ring isn't one into the book, by which packets are looked at.
func TestReadIsNotByTheRing(t *testing.T) {
	c := made(t, me, 1)
	c.Ring().Add(you, mac.New(asSender(you, me.Id)))
	p := packet.Packet{Kind: packet.Ping, From: you, To: me.Id, Nonce: window.Nonce{Boot: 1, Counter: 1}}
	dropsIt(t, c, asBytes(p, asSender(you, me.Id)), 5, nil, api.ErrNone)
}

// A method beside the chapter's, as the counter's Next would be, a nil channel had no
// answer to.
func TestAChannelHasTheChaptersMethods(t *testing.T) {
	var got []string
	for m := range reflect.TypeFor[*Channel]().Methods() {
		got = append(got, m.Name)
	}
	if want := []string{"Book", "Boot", "Drops", "Read", "Ring", "Write"}; !slices.Equal(got, want) {
		t.Error(got)
	}
}

// P16.1: Write.

func TestWriteUp(t *testing.T) {
	for _, who := range right()[:30] {
		c := made(t, who, 258)
		counter := 0
		for _, kind := range ups {
			for _, seed := range seeds {
				for _, n := range []int{0, 1, 255, 256, 511, 512} {
					counter++
					p := packet.Packet{Kind: kind, From: who, To: seed, Nonce: window.Nonce{Boot: 258, Counter: counter}, Body: some(n)}
					writes(t, c, p, asSeed(who, seed))
				}
			}
		}
		refuses(t, c, packet.Join, 0, make([]byte, 513), api.ErrLong)
	}
}

func TestWriteBetweenMembers(t *testing.T) {
	for _, boot := range boots {
		c := made(t, me, boot)
		counter := 0
		for _, kind := range sides {
			for _, id := range append(people, me.Id) {
				for _, body := range [][]byte{nil, {}, []byte("hello"), some(512)} {
					counter++
					p := packet.Packet{Kind: kind, From: me, To: id, Nonce: window.Nonce{Boot: boot, Counter: counter}, Body: body}
					writes(t, c, p, asSender(me, id))
				}
			}
		}
	}
}

// What is written is parsed as a packet whose tag holds.
func TestWhatIsWrittenHolds(t *testing.T) {
	c := made(t, me, 7)
	for i, kind := range slices.Concat(ups, sides) {
		to := 1 + i%3
		b, e := c.Write(kind, to, some(i))
		p, f := packet.Parse(b)
		if e != api.OK || f != api.OK || p.Kind != kind || p.From != me || p.To != to || p.Nonce != (window.Nonce{Boot: 7, Counter: i + 1}) || !bytes.Equal(p.Body, some(i)) {
			t.Error(kind, p, e, f)
		}
		key, _ := keys.Member(mac.New([]byte(master)), me, to)
		if Way(kind) == Side {
			key, _ = keys.Grant(mac.New([]byte(master)), me, to)
		}
		if p.Holds(key) != (kind != packet.Hello) || (p.Tag == [32]byte{}) != (kind == packet.Hello) {
			t.Error(kind, p.Tag)
		}
	}
}

// Example 1.
func TestTheFirstPacketHasTheCounterOne(t *testing.T) {
	for _, kind := range slices.Concat(ups, sides) {
		b, _ := made(t, me, 9).Write(kind, 1, nil)
		if p, e := packet.Parse(b); e != api.OK || p.Nonce != (window.Nonce{Boot: 9, Counter: 1}) {
			t.Error(kind, p.Nonce, e)
		}
	}
}

// What isn't written uses no nonce up, and is no drop.
func TestWriteOfWrongOnes(t *testing.T) {
	c := made(t, me, 1)
	for _, kind := range slices.Concat(downs, noKinds) {
		for _, to := range slices.Concat(seeds, noSeeds, people, noPeople) {
			refuses(t, c, kind, to, nil, api.ErrKind)
			refuses(t, c, kind, to, make([]byte, 513), api.ErrKind)
		}
	}
	for _, kind := range ups {
		for _, to := range noSeeds {
			refuses(t, c, kind, to, nil, api.ErrRange)
			refuses(t, c, kind, to, make([]byte, 513), api.ErrRange)
		}
		for _, to := range seeds {
			refuses(t, c, kind, to, make([]byte, 513), api.ErrLong)
			refuses(t, c, kind, to, make([]byte, 70000), api.ErrLong)
		}
	}
	for _, kind := range sides {
		for _, to := range noPeople {
			refuses(t, c, kind, to, nil, api.ErrRange)
			refuses(t, c, kind, to, make([]byte, 513), api.ErrRange)
		}
		for _, to := range people {
			refuses(t, c, kind, to, make([]byte, 513), api.ErrLong)
			refuses(t, c, kind, to, make([]byte, 1<<16), api.ErrLong)
		}
	}
	if c.Drops().Total() != 0 {
		t.Error(c.Drops().All())
	}
	writes(t, c, packet.Packet{Kind: 7, From: me, To: 9, Nonce: window.Nonce{Boot: 1, Counter: 1}}, asSender(me, 9))
}

// The nonces are gone through one by one, as there is no other way to the last one.
func TestWriteWithoutANonceLeft(t *testing.T) {
	t.Parallel()
	c := made(t, me, 65535)
	for range 1<<31 - 2 {
		c.next()
	}
	last := packet.Packet{Kind: packet.Ping, From: me, To: 9, Nonce: window.Nonce{Boot: 65535, Counter: 1<<31 - 1}}
	refuses(t, c, packet.Ping, 9, make([]byte, 513), api.ErrLong)
	writes(t, c, last, asSender(me, 9))
	for _, kind := range ups {
		refuses(t, c, kind, 3, some(512), api.ErrFull)
		refuses(t, c, kind, 3, make([]byte, 513), api.ErrLong)
		refuses(t, c, kind, 4, nil, api.ErrRange)
	}
	for _, kind := range sides {
		refuses(t, c, kind, 9, nil, api.ErrFull)
		refuses(t, c, kind, 9, make([]byte, 513), api.ErrLong)
		refuses(t, c, kind, 0, nil, api.ErrRange)
	}
	refuses(t, c, packet.Grant, 9, nil, api.ErrKind)
	if c.Boot() != 65535 {
		t.Error(c.Boot())
	}
	knows(t, c, you)
	p := packet.Packet{Kind: packet.Ping, From: you, To: me.Id, Nonce: window.Nonce{Boot: 1, Counter: 1}}
	takes(t, c, p, asSender(you, me.Id), 5, nil)
}

// All that a channel writes has nonces of one row, whatever it takes between.
func TestReadUsesNoNonceUp(t *testing.T) {
	c := made(t, me, 1)
	knows(t, c, you)
	for n := 1; n < 50; n++ {
		p := packet.Packet{Kind: packet.Ping, From: you, To: me.Id, Nonce: window.Nonce{Boot: 1, Counter: n}}
		takes(t, c, p, asSender(you, me.Id), 5, nil)
		dropsIt(t, c, nil, 5, nil, api.ErrEnd)
		writes(t, c, packet.Packet{Kind: packet.Want, From: me, To: 2, Nonce: window.Nonce{Boot: 1, Counter: n}}, asSeed(me, 2))
	}
}

func TestWhatIsHandedToWriteIsNotChangedAndNotKept(t *testing.T) {
	for _, kind := range slices.Concat(ups, sides) {
		c := made(t, me, 1)
		body := some(600)
		b, e := c.Write(kind, 1, body[:100])
		if e != api.OK || !bytes.Equal(body, some(600)) {
			t.Error(kind, e)
		}
		before := bytes.Clone(b)
		clear(body)
		if !bytes.Equal(b, before) {
			t.Error(kind, "shared")
		}
		clear(b[:cap(b)])
		p := packet.Packet{Kind: kind, From: me, To: 1, Nonce: window.Nonce{Boot: 1, Counter: 2}, Body: some(100)}
		key := asSeed(me, 1)
		if Way(kind) == Side {
			key = asSender(me, 1)
		}
		writes(t, c, p, key)
	}
}

// What another package makes of the ring has no packet that isn't right.
func TestWriteOfASpoiltRing(t *testing.T) {
	c := made(t, me, 1)
	*c.Ring() = keys.Ring{}
	refuses(t, c, packet.Hello, 0, nil, api.ErrRange)
	refuses(t, c, packet.Ping, 9, nil, api.ErrRange)
	dropsIt(t, c, asBytes(packet.Packet{Kind: packet.Cookie, From: me, Nonce: window.Nonce{Boot: 1, Counter: 1}}, nil), 5, nil, api.ErrArg)
}
