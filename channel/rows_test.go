package channel

import (
	"bytes"
	"math"
	"math/rand"
	"reflect"
	"slices"
	"testing"

	"vigil/api"
	"vigil/claims"
	"vigil/keys"
	"vigil/mac"
	"vigil/packet"
	"vigil/revoke"
	"vigil/window"
)

// P16.4: what a member writes to another one, who was granted its key, is taken, once.

// asks has b want a's key, a seed grant it, and b put what was granted.
func asks(t *testing.T, a, b *Channel, seed, counter int) {
	t.Helper()
	m, n := mac.New([]byte(master)), window.Nonce{Boot: 1, Counter: counter}
	if e := b.Book().Want(a.own(), 5); e != api.OK {
		t.Fatal(e)
	}
	theirs, _ := keys.Member(m, b.own(), seed)
	k, _ := keys.Grant(m, a.own(), b.own().Id)
	body, e := Grant(theirs, n, a.own(), k)
	if e != api.OK {
		t.Fatal(e)
	}
	p, e := packet.Packet{Kind: packet.Grant, From: b.own(), To: seed, Nonce: n, Body: body}.Tagged(theirs)
	if e != api.OK {
		t.Fatal(e)
	}
	x, _ := packet.Bytes(p)
	p, e = b.Read(x, 5, nil)
	if e != api.OK {
		t.Fatal(e)
	}
	own, _ := b.Ring().Seed(p.To)
	who, k, e := Granted(own, p.Nonce, p.Body)
	if e != api.OK || who != a.own() {
		t.Fatal(who, e)
	}
	if e := b.Book().Put(who, k); e != api.OK {
		t.Fatal(e)
	}
	dropsIt(t, b, x, 5, nil, api.ErrTwice)
}

// wrote is the bytes of the channel's next packet.
func wrote(t *testing.T, c *Channel, kind, to int, body []byte) []byte {
	t.Helper()
	b, e := c.Write(kind, to, body)
	if e != api.OK {
		t.Fatal(kind, to, e)
	}
	return b
}

func TestWhatAMemberWritesIsTakenOnce(t *testing.T) {
	a, b, c := made(t, you, 3), made(t, me, 5), made(t, others[0], 7)
	asks(t, a, b, 2, 1)
	asks(t, b, a, 1, 1)
	for i := range 40 {
		x := wrote(t, a, sides[i%5], me.Id, some(i))
		p, e := b.Read(x, 99, nil)
		want := packet.Packet{Kind: sides[i%5], From: you, To: me.Id, Nonce: window.Nonce{Boot: 3, Counter: i + 1}, Body: some(i), Tag: p.Tag}
		if e != api.OK || !packet.Same(p, want) {
			t.Error(i, p, e)
		}
		dropsIt(t, b, x, 99, nil, api.ErrTwice)
		dropsIt(t, a, x, 99, nil, api.ErrArg)
		dropsIt(t, c, x, 99, nil, api.ErrArg)
		y := wrote(t, b, sides[i%5], you.Id, some(i))
		if _, e := a.Read(y, 99, nil); e != api.OK {
			t.Error(i, e)
		}
		dropsIt(t, a, y, 99, nil, api.ErrTwice)
	}
}

// In whichever order they come, as long as none is old.
func TestWhatAMemberWritesIsTakenOnceInAnyOrder(t *testing.T) {
	draws := rand.New(rand.NewSource(16))
	for range 10 {
		a, b := made(t, you, 3), made(t, me, 5)
		asks(t, a, b, draws.Intn(4), 1)
		var l [][]byte
		for i := range 64 {
			l = append(l, wrote(t, a, sides[i%5], me.Id, some(i)))
		}
		for _, i := range draws.Perm(64) {
			if _, e := b.Read(l[i], 5, nil); e != api.OK {
				t.Error(i, e)
			}
			dropsIt(t, b, l[i], 5, nil, api.ErrTwice)
		}
		for range 64 {
			wrote(t, a, packet.Hello, 0, nil)
		}
		if _, e := b.Read(wrote(t, a, packet.Ping, me.Id, nil), 5, nil); e != api.OK {
			t.Error(e)
		}
		for _, x := range l {
			dropsIt(t, b, x, 5, nil, api.ErrOld)
		}
	}
}

// Who was granted the key can't write by it to others, who would take it for the sender's:
// for them it is another key.
func TestWhoWasGrantedAKeyCantVouchForItsSender(t *testing.T) {
	a, b, c := made(t, you, 3), made(t, me, 5), made(t, others[0], 7)
	asks(t, a, b, 0, 1)
	asks(t, a, c, 0, 1)
	k, e := b.Book().Key(you)
	if e != api.OK {
		t.Fatal(e)
	}
	p := packet.Packet{Kind: packet.Sync, From: you, To: others[0].Id, Nonce: window.Nonce{Boot: 9, Counter: 9}}
	dropsIt(t, c, asBytes(p, k.Bytes()), 5, nil, api.ErrTag)
	if _, e := c.Read(wrote(t, a, packet.Sync, others[0].Id, nil), 5, nil); e != api.OK {
		t.Error(e)
	}
}

// Behind a crash a member's nonces are taken again, if it has a greater boot.
func TestAGreaterBootIsTaken(t *testing.T) {
	b := made(t, me, 5)
	asks(t, made(t, you, 1), b, 2, 1)
	for _, boot := range []int{1, 2, 5, 65535} {
		a := made(t, you, boot)
		for range 3 {
			if _, e := b.Read(wrote(t, a, packet.Ping, me.Id, nil), 5, nil); e != api.OK {
				t.Error(boot, e)
			}
		}
		dropsIt(t, b, wrote(t, made(t, you, boot), packet.Ping, me.Id, nil), 5, nil, api.ErrTwice)
		if boot > 1 {
			dropsIt(t, b, wrote(t, made(t, you, 1), packet.Ping, me.Id, nil), 5, nil, api.ErrOld)
		}
	}
}

// P16.4: whatever else comes changes nothing but drops.

func TestWhateverElseComesChangesNothing(t *testing.T) {
	draws := rand.New(rand.NewSource(164))
	c := made(t, me, 5)
	asks(t, made(t, you, 1), c, 2, 70)
	c.Book().Want(others[0], 5)
	before := seen(c)
	right := [][]byte{
		asBytes(seedPacket(packet.Admit, 2, 2, 1), asSeed(me, 2)), asBytes(seedPacket(packet.Attest, 0, 1, 1), asSeed(me, 0)),
		asBytes(ping(you, 1, 1), asSender(you, me.Id)), asBytes(ping(others[0], 1, 1), asSender(others[0], me.Id)),
	}
	count := c.Drops().Total()
	for range 30000 {
		var b []byte
		switch draws.Intn(3) {
		case 0:
			b = make([]byte, draws.Intn(90))
			draws.Read(b)
		case 1:
			b = bytes.Clone(right[draws.Intn(len(right))])
			b[draws.Intn(len(b))] ^= byte(1 + draws.Intn(255))
		case 2:
			b = bytes.Clone(right[draws.Intn(len(right))])
			draws.Read(b[len(b)-32:])
		}
		if len(b) > 0 && b[0] == packet.Cookie {
			continue
		}
		p, e := c.Read(b, draws.Intn(200), nil)
		count++
		if e == api.OK || !isNone(p) || c.Drops().Total() != count {
			t.Fatalf("%x: %v, %d", b, p, e)
		}
	}
	if !reflect.DeepEqual(seen(c), before) {
		t.Error("changed")
	}
	for i, b := range right[:3] {
		if _, e := c.Read(b, 5, nil); e != api.OK {
			t.Error(i, e)
		}
	}
}

// P16.4: a nil channel, whatever it is asked; and the zero one, which New never answers.

func TestNilChannel(t *testing.T) {
	for _, c := range []*Channel{nil, {}} {
		for kind := -1; kind < 17; kind++ {
			for _, to := range slices.Concat(seeds, noSeeds, people, noPeople) {
				refuses(t, c, kind, to, nil, api.ErrState)
				refuses(t, c, kind, to, make([]byte, 513), api.ErrState)
			}
		}
		for _, b := range [][]byte{nil, make([]byte, 1025), asBytes(ping(you, 1, 1), nil), asBytes(seedPacket(2, 1, 1, 1), nil)} {
			for _, tick := range ticks {
				for _, s := range []*revoke.Set{nil, {}, revoking(t, 8)} {
					if p, e := c.Read(b, tick, s); !isNone(p) || e != api.ErrState {
						t.Error(p, e)
					}
				}
			}
		}
		if c.Ring() != nil || c.Book() != nil || c.Drops() != nil || c.Boot() != 0 {
			t.Error("not nil, or not 0")
		}
	}
}

// Two channels of one token go their own ways.
func TestTwoChannels(t *testing.T) {
	one, two := made(t, me, 1), made(t, me, 1)
	before := seen(two)
	knows(t, one, you)
	takes(t, one, ping(you, 1, 1), asSender(you, me.Id), 5, nil)
	takes(t, one, seedPacket(packet.Admit, 1, 1, 1), asSeed(me, 1), 5, nil)
	dropsIt(t, one, nil, 5, nil, api.ErrEnd)
	wrote(t, one, packet.Hello, 0, nil)
	if !reflect.DeepEqual(seen(two), before) || two.Drops().Total() != 0 {
		t.Error("shared")
	}
	takes(t, two, seedPacket(packet.Admit, 1, 1, 1), asSeed(me, 1), 5, nil)
}

// P16.4: over many calls in a row channels are as plain lists of what was said would be.

// line is what is kept of one in a plain book: whether its key is known, and all nonces
// that were taken.
type line struct {
	known bool
	taken []window.Nonce
}

// plain is a channel by lists alone.
type plain struct {
	own        claims.Claims
	boot, told int
	lines      map[claims.Claims]*line
	seeds      [4][]window.Nonce
	drops      [16]int
}

// mail is bytes on their way: a packet, the key that it was tagged under, and what was
// done to it: 'e' if its end was cut off, 'm' if there is more, 't' if its tag was turned.
type mail struct {
	p    packet.Packet
	key  []byte
	done byte
}

func (x mail) bytes() []byte {
	b := asBytes(x.p, x.key)
	switch x.done {
	case 'e':
		return b[:len(b)-1]
	case 'm':
		return append(b, 7)
	case 't':
		b[len(b)-7] ^= 4
	}
	return b
}

// judged is by all that was taken, of which nothing is ever forgotten.
func judged(taken []window.Nonce, n window.Nonce) api.Errno {
	for _, x := range taken {
		if n.Boot < x.Boot || n.Boot == x.Boot && n.Counter <= x.Counter-64 {
			return api.ErrOld
		}
	}
	if slices.Contains(taken, n) {
		return api.ErrTwice
	}
	return api.OK
}

// taken is where the packet's nonce is kept, and why it isn't taken.
func (o *plain) taken(x mail, tick int, revoked []int) (*[]window.Nonce, api.Errno) {
	p := x.p
	held := func(key []byte) api.Errno {
		if x.done == 't' || !bytes.Equal(x.key, key) {
			return api.ErrTag
		}
		return api.OK
	}
	switch {
	case x.done == 'e':
		return nil, api.ErrEnd
	case x.done == 'm', x.done == 't' && p.Kind < 3:
		return nil, api.ErrForm
	case slices.Contains(ups, p.Kind):
		return nil, api.ErrKind
	case slices.Contains(downs, p.Kind):
		if p.From != o.own || p.To > 3 {
			return nil, api.ErrArg
		}
		if p.Kind == packet.Cookie {
			return nil, api.OK
		}
		return &o.seeds[p.To], held(asSeed(o.own, p.To))
	case p.To != o.own.Id || p.From.Id == o.own.Id:
		return nil, api.ErrArg
	case tick >= p.From.Expiry || slices.Contains(revoked, p.From.Serial):
		return nil, api.ErrGone
	}
	l := o.lines[p.From]
	switch {
	case l == nil:
		return nil, api.ErrNone
	case !l.known:
		return nil, api.ErrState
	}
	return &l.taken, held(asSender(p.From, o.own.Id))
}

func (o *plain) read(x mail, tick int, revoked []int) api.Errno {
	l, e := o.taken(x, tick, revoked)
	if e == api.OK && l != nil {
		e = judged(*l, x.p.Nonce)
		if e == api.OK {
			*l = append(*l, x.p.Nonce)
		}
	}
	if e != api.OK {
		o.drops[e]++
	}
	return e
}

// write is the next packet, and its key.
func (o *plain) write(kind, to, long int) (mail, api.Errno) {
	up, side := slices.Contains(ups, kind), slices.Contains(sides, kind)
	switch {
	case !up && !side:
		return mail{}, api.ErrKind
	case up && (to < 0 || to > 3), side && (to < 1 || to > 65535):
		return mail{}, api.ErrRange
	case long > 512:
		return mail{}, api.ErrLong
	}
	o.told++
	x := mail{p: packet.Packet{Kind: kind, From: o.own, To: to, Nonce: window.Nonce{Boot: o.boot, Counter: o.told}, Body: some(long)}}
	if up {
		x.key = asSeed(o.own, to)
	} else {
		x.key = asSender(o.own, to)
	}
	return x, api.OK
}

// both is a channel, and the plain one beside it.
type both struct {
	c *Channel
	o *plain
}

// town is some members, and the mail that was written.
type town struct {
	l       []both
	mails   []mail
	tick    int
	set     *revoke.Set
	revoked []int
	seen    map[said]int
}

// said is a kind of call, and what it answered.
type said struct {
	call string
	e    api.Errno
}

func founded(t *testing.T) *town {
	t.Helper()
	w := &town{set: revoke.New(), seen: map[said]int{}}
	for i, c := range append([]claims.Claims{me, you, {Id: 9, Expiry: 1 << 30, Serial: 44}}, others...) {
		w.l = append(w.l, both{made(t, c, i+1), &plain{own: c, boot: i + 1, lines: map[claims.Claims]*line{}}})
	}
	return w
}

// step is one call of one member, by some numbers.
func (w *town) step(t *testing.T, call, who, x, y int) {
	t.Helper()
	m, other := w.l[who%len(w.l)], w.l[x%len(w.l)].o.own
	switch call % 8 {
	case 0, 1:
		w.write(t, m, []int{7, 8, 9, 10, 13, 7, 1, 3, 5, 2, 15}[y%11], []int{me.Id, me.Id, you.Id, 10, 2, 0, 3, 65536}[x%8], []int{0, 5, 512, 30, 9, 513}[(x+y)%6])
	case 2:
		w.mails = append(w.mails, mail{p: packet.Packet{
			Kind: downs[y%4], From: other, To: x % 5, Nonce: window.Nonce{Boot: 1 + len(w.mails)/600, Counter: 1 + len(w.mails)%600/4 + y%20},
		}, key: asSeed(other, x%4)})
	case 3:
		w.book(t, m, other, y)
	case 4, 5, 6:
		w.read(t, m, x, y)
	case 7:
		if y%100 == 0 {
			w.tick = min(w.tick+x%7, 130)
		}
		if y%113 == 1 && !slices.Contains(w.revoked, other.Serial) && len(w.revoked) < 2 {
			w.set.Revoke(x%4, other.Serial)
			w.revoked = append(w.revoked, other.Serial)
		}
	}
}

func (w *town) write(t *testing.T, m both, kind, to, long int) {
	t.Helper()
	x, want := m.o.write(kind, to, long)
	b, e := m.c.Write(kind, to, some(long))
	if e != want || want != api.OK && b != nil || want == api.OK && !bytes.Equal(b, x.bytes()) {
		t.Fatalf("kind %d to %d, %d bytes: %x, %d, not %d", kind, to, long, b, e, want)
	}
	if e == api.OK {
		w.mails = append(w.mails, x)
	}
	w.seen[said{"write", e}]++
}

func (w *town) book(t *testing.T, m both, who claims.Claims, y int) {
	t.Helper()
	l, b := m.o.lines[who], m.c.Book()
	switch {
	case l == nil:
		m.o.lines[who] = &line{}
		b.Want(who, w.tick)
	case !l.known:
		l.known = true
		b.Put(who, mac.New(asSender(who, m.o.own.Id)))
	case y%40 == 0:
		delete(m.o.lines, who)
		b.Drop(who)
	}
}

// read has a mail, mostly one of the last ones, come to somebody.
func (w *town) read(t *testing.T, m both, x, y int) {
	t.Helper()
	if len(w.mails) == 0 {
		return
	}
	a := w.mails[max(0, len(w.mails)-1-y%20)]
	if y%5 == 0 {
		a = w.mails[x*31%len(w.mails)]
	}
	if x%3 > 0 { // to whom it is for
		for _, o := range w.l {
			if Way(a.p.Kind) == Side && o.o.own.Id == a.p.To || o.o.own == a.p.From && Way(a.p.Kind) == Down {
				m = o
			}
		}
	}
	a.done = map[int]byte{1: 'e', 2: 'm', 3: 't', 4: 't'}[y%23]
	set, revoked := w.set, w.revoked
	if x%4 == 0 {
		set, revoked = nil, nil
	}
	want, boot := m.o.read(a, w.tick, revoked), m.c.Boot()
	b := a.bytes()
	p, e := m.c.Read(b, w.tick, set)
	a.p.Tag = [32]byte(append(make([]byte, 32), b...)[len(b):])
	if e != want || e == api.OK && !packet.Same(p, a.p) || e != api.OK && !isNone(p) || m.c.Drops().All() != m.o.drops || m.c.Boot() != boot {
		t.Fatalf("%v: %v, %d, not %d; %v, not %v", a, p, e, want, m.c.Drops().All(), m.o.drops)
	}
	w.seen[said{"read", e}]++
}

// Rows of calls by a fixed row of draws, so that each run has the same ones.
func TestLongRows(t *testing.T) {
	for seed := range 6 {
		draws := rand.New(rand.NewSource(int64(seed + 1640)))
		w := founded(t)
		for range 8000 {
			w.step(t, draws.Intn(8), draws.Intn(100), draws.Intn(1000), draws.Intn(1000))
		}
		for _, x := range []said{
			{"write", api.OK}, {"write", api.ErrKind}, {"write", api.ErrRange}, {"write", api.ErrLong},
			{"read", api.OK}, {"read", api.ErrEnd}, {"read", api.ErrForm}, {"read", api.ErrKind}, {"read", api.ErrArg}, {"read", api.ErrGone},
			{"read", api.ErrNone}, {"read", api.ErrState}, {"read", api.ErrTag}, {"read", api.ErrTwice}, {"read", api.ErrOld},
		} {
			if w.seen[x] < 5 {
				t.Errorf("row %d tells little of %v: %v", seed, x, w.seen)
			}
		}
	}
}

// P1 and P2: every call ends, none panics, and the same calls answer the same.

func story(c *Channel, kind, to, tick, boot, counter int, b []byte, revoked *revoke.Set) []any {
	n := window.Nonce{Boot: boot, Counter: counter}
	var out []any
	tell := func(b []byte, e api.Errno) { out = append(out, string(b), e) }
	read := func(b []byte) {
		p, e := c.Read(b, tick, revoked)
		out = append(out, p.Kind, p.From, p.To, p.Nonce, string(p.Body), p.Tag, e)
	}
	tell(c.Write(kind, to, b))
	tell(c.Write(packet.Ping, me.Id, b[:len(b)/2]))
	read(b)
	read(asBytes(packet.Packet{Kind: kind, From: me, To: to, Nonce: n, Body: b}, asSeed(me, to&3)))
	for range 2 {
		read(asBytes(packet.Packet{Kind: kind, From: you, To: to, Nonce: n, Body: b}, asSender(you, me.Id)))
	}
	for _, key := range []*mac.Key{nil, mac.New(b)} {
		tell(Grant(key, n, you, mac.New(some(to&63))))
		tell(Grant(key, n, claims.Claims{Id: kind, Roles: to, Expiry: tick, Serial: counter}, mac.New(some(32))))
		who, k, e := Granted(key, n, b)
		out = append(out, who, string(k.Bytes()), e)
	}
	return append(out, Way(kind), c.Boot(), c.Drops().All(), c.Ring().Own(), c.Book().Len())
}

func TestTheSameCallsAnswerTheSame(t *testing.T) {
	one, two := made(t, me, 7), made(t, me, 7)
	knows(t, one, you)
	knows(t, two, you)
	numbers := []int{math.MinInt, -1, 0, 1, 5, 258, 65535, 65536, 1 << 30, 1<<31 - 1, math.MaxInt}
	for kind := -1; kind < 17; kind++ {
		for _, n := range numbers {
			for _, m := range numbers {
				for _, c := range [][]*Channel{{one, two}, {nil, nil}, {{}, {}}} {
					if b := some(m & 127); !slices.Equal(story(c[0], kind, n, m, n&7, m, b, nil), story(c[1], kind, n, m, n&7, m, b, nil)) {
						t.Fatal(kind, n, m)
					}
				}
			}
		}
	}
}

func FuzzChannel(f *testing.F) {
	f.Add([]byte{0, 1, 2, 3, 3, 0, 1, 1, 3, 0, 1, 1, 0, 1, 0, 0, 4, 0, 0, 1}, asBytes(ping(you, 1, 1), asSender(you, me.Id)), 7, 258, 5, 1, 1)
	f.Add([]byte{}, []byte{}, 0, -1, math.MinInt, 0, 0)
	f.Add(some(900), asBytes(seedPacket(2, 3, 1, 1), nil), 4, 3, math.MaxInt, 65535, 1<<31-1)
	f.Fuzz(func(t *testing.T, calls, b []byte, kind, to, tick, boot, counter int) {
		w := founded(t)
		for calls = calls[:min(len(calls), 600)]; len(calls) > 3; calls = calls[4:] {
			w.step(t, int(calls[0]), int(calls[1]), int(calls[2]), int(calls[3]))
		}
		one, two := made(t, me, 7), made(t, me, 7)
		knows(t, one, you)
		knows(t, two, you)
		s := revoking(t, 1+to&255)
		if !slices.Equal(story(one, kind, to, tick, boot, counter, b, s), story(two, kind, to, tick, boot, counter, b, s)) {
			t.Error("the same calls answer otherwise")
		}
		before := seen(one)
		p, e := one.Read(b, tick, s)
		if e != api.OK && (!isNone(p) || !reflect.DeepEqual(seen(one), before)) {
			t.Error(p, e)
		}
		if e == api.OK && p.Kind != packet.Cookie {
			if _, e := one.Read(b, tick, s); e != api.ErrTwice {
				t.Error("taken twice:", e)
			}
		}
	})
}

func BenchmarkWrite(b *testing.B) {
	x := made(b, me, 1)
	for b.Loop() {
		x.Write(packet.Ping, 9, some(100))
	}
}

func BenchmarkRead(b *testing.B) {
	x := made(b, me, 1)
	knows(b, x, you)
	p := asBytes(ping(you, 1, 1), asSender(you, me.Id))
	for b.Loop() {
		x.Read(p, 5, nil)
	}
}
