package packet

import (
	"bytes"
	"crypto/hmac"
	"crypto/sha256"
	"math"
	"slices"
	"testing"

	"vigil/api"
	"vigil/claims"
	"vigil/mac"
	"vigil/window"
)

// asTag is the tag of a packet's head, by the library's own means.
func asTag(key []byte, p Packet) [32]byte {
	h := hmac.New(sha256.New, key)
	h.Write(asHead(p))
	return [32]byte(h.Sum(nil))
}

func someKeys() [][]byte {
	return [][]byte{[]byte("a key"), {0}, nil, filled(32), filled(64), filled(65), filled(200)}
}

// tags fails unless the packet's tag is told.
func tags(t *testing.T, p Packet, key []byte) Packet {
	t.Helper()
	want := p
	want.Tag = asTag(key, p)
	q, e := p.Tagged(mac.New(key))
	if !equal(q, want) || e != api.OK {
		t.Errorf("%v: %v, %d", p, q, e)
	}
	return q
}

func tagless(t *testing.T, p Packet, key *mac.Key, want api.Errno) {
	t.Helper()
	if q, e := p.Tagged(key); !none(q) || e != want {
		t.Errorf("%v: %v, %d, not %d", p, q, e, want)
	}
	if p.Holds(key) {
		t.Errorf("%v: holds", p)
	}
}

// P14.2: Tagged and Holds.

func TestTagged(t *testing.T) {
	for _, p := range right() {
		if p.Kind <= 2 {
			continue
		}
		for _, key := range someKeys() {
			q := tags(t, p, key)
			if p.Holds(mac.New(key)) || !q.Holds(mac.New(key)) {
				t.Errorf("%v", q)
			}
		}
	}
}

func TestTaggedUnderTheZeroKey(t *testing.T) {
	p := some(Ping)
	q, e := p.Tagged(&mac.Key{})
	if q.Tag != asTag(nil, p) || e != api.OK || !q.Holds(&mac.Key{}) || !q.Holds(mac.New(nil)) {
		t.Errorf("%v, %d", q, e)
	}
	if !q.Holds(mac.New(make([]byte, 64))) { // as RFC 2104 fills keys with 0
		t.Error("of 64 bytes 0")
	}
}

// Whatever tag it had before, it has the one of its head.
func TestTaggedAgain(t *testing.T) {
	p := some(Delta)
	one := tags(t, p, []byte("one"))
	two := tags(t, one, []byte("two"))
	three := tags(t, two, []byte("one"))
	if !equal(one, three) || equal(one, two) || two.Holds(mac.New([]byte("one"))) {
		t.Errorf("%v, %v, %v", one, two, three)
	}
}

func TestTaggedOfANilKey(t *testing.T) {
	for _, p := range right() {
		tagless(t, p, nil, api.ErrArg)
	}
	for _, w := range wrong() {
		tagless(t, w.p, nil, api.ErrArg)
	}
	tagless(t, Packet{}, nil, api.ErrArg)
	p := some(Ping)
	p.Tag = asTag(nil, p)
	tagless(t, p, nil, api.ErrArg)
}

func TestTaggedOfPlainKinds(t *testing.T) {
	key := mac.New([]byte("a key"))
	for _, kind := range []int{Hello, Cookie} {
		p := some(kind)
		tagless(t, p, key, api.ErrState)
		p.Tag = asTag([]byte("a key"), p)
		tagless(t, p, key, api.ErrState)
		for _, f := range append(faults()[len(wrongKinds()):], tagFaults()...) {
			p := some(kind)
			f.make(&p)
			tagless(t, p, key, api.ErrState)
		}
	}
}

func TestTaggedOfWhatIsntRight(t *testing.T) {
	key := mac.New([]byte("a key"))
	for _, w := range wrong() {
		if w.p.Kind == Hello || w.p.Kind == Cookie {
			continue
		}
		tagless(t, w.p, key, w.want)
		w.p.Tag = [32]byte{}
		tagless(t, w.p, key, w.want)
		w.p.Tag = [32]byte(filled(32))
		tagless(t, w.p, key, w.want)
		w.p.Tag = asTag([]byte("a key"), w.p)
		tagless(t, w.p, key, w.want)
	}
}

func TestTaggedChangesNothing(t *testing.T) {
	key := mac.New([]byte("a key"))
	body := filled(100)[:50:100]
	p := tagged(Sync)
	p.Body = body
	before := p
	q, _ := p.Tagged(key)
	q.Holds(key)
	if !equal(p, before) || !bytes.Equal(body[:100], filled(100)) || !bytes.Equal(key.Bytes(), []byte("a key")) {
		t.Errorf("%v", p)
	}
	body[0] ^= 255 // of the packet that was handed in: not of the answer
	if q.Body[0] == body[0] || !q.Holds(key) {
		t.Error("the answer hangs on the body that was handed in")
	}
	q.Body[1] ^= 255
	_ = append(q.Body, 9)
	if body[1] == q.Body[1] || body[:51][50] != filled(51)[50] {
		t.Error("the body that was handed in hangs on the answer")
	}
}

func TestHoldsWithABitTurned(t *testing.T) {
	key := mac.New([]byte("a key"))
	for _, kind := range rightKinds()[2:] {
		p := tags(t, some(kind), []byte("a key"))
		for i := range 32 {
			for bit := range 8 {
				q := p
				q.Tag[i] ^= 1 << bit
				if q.Holds(key) {
					t.Errorf("%d, byte %d, bit %d", kind, i, bit)
				}
			}
		}
		for _, tag := range [][32]byte{{}, asTag([]byte("b key"), p), {31: 1}} {
			q := p
			q.Tag = tag
			if q.Holds(key) {
				t.Errorf("%d, %x", kind, tag)
			}
		}
		if !p.Holds(key) {
			t.Error(kind)
		}
	}
}

func TestHoldsUnderAnotherKey(t *testing.T) {
	for _, one := range someKeys() {
		p := tags(t, some(Want), one)
		held := 0
		for _, other := range someKeys() {
			same := asTag(other, p) == p.Tag // a byte 0 and none are filled up to the same key
			if p.Holds(mac.New(other)) != same {
				t.Errorf("%x, %x: %t", one, other, !same)
			}
			if same {
				held++
			}
		}
		if held < 1 || held > 2 {
			t.Errorf("%x: under %d keys", one, held)
		}
	}
}

// A tag is of all parts of the packet.
func TestHoldsOfAnotherPacket(t *testing.T) {
	key := mac.New([]byte("a key"))
	p := tags(t, some(Sync), []byte("a key"))
	for i, set := range unlike() {
		q := p
		set(&q)
		if q.Holds(key) {
			t.Errorf("%d: %v", i, q)
		}
	}
}

// unlike is what changes one of the parts: those of the tag come last.
func unlike() []func(p *Packet) {
	return []func(p *Packet){
		func(p *Packet) { p.Kind = Delta }, func(p *Packet) { p.Kind = Request }, func(p *Packet) { p.Kind = 0 },
		func(p *Packet) { p.From.Id++ }, func(p *Packet) { p.From.Roles++ }, func(p *Packet) { p.From.Expiry++ },
		func(p *Packet) { p.From.Serial++ }, func(p *Packet) { p.From = claims.Claims{} },
		func(p *Packet) { p.To++ }, func(p *Packet) { p.To += 1 << 16 }, func(p *Packet) { p.To = 0 },
		func(p *Packet) { p.Nonce.Boot++ }, func(p *Packet) { p.Nonce.Counter++ },
		func(p *Packet) { p.Nonce = window.Nonce{} },
		func(p *Packet) { p.Nonce.Boot, p.Nonce.Counter = p.Nonce.Counter, p.Nonce.Boot },
		func(p *Packet) { p.Body = nil }, func(p *Packet) { p.Body = []byte("hellp") }, func(p *Packet) { p.Body = []byte("Hello") },
		func(p *Packet) { p.Body = []byte("hell") }, func(p *Packet) { p.Body = []byte("hello\x00") },
		func(p *Packet) { p.Tag[0]++ }, func(p *Packet) { p.Tag[17]++ }, func(p *Packet) { p.Tag[31]++ },
		func(p *Packet) { p.Tag = [32]byte{} },
	}
}

// P14.2: Plain, Seeds and Word.

func TestKindsAreNumbered(t *testing.T) {
	kinds := []int{Hello, Cookie, Join, Admit, Want, Grant, Ping, Ack, Request, Sync, Delta, Attest, Meta, Leave}
	if !slices.Equal(kinds, rightKinds()) || Least != 52 || Longest != 512 {
		t.Errorf("%v, %d, %d", kinds, Least, Longest)
	}
}

func TestOfEachKind(t *testing.T) {
	for _, c := range []struct {
		kind         int
		word         string
		plain, seeds bool
	}{
		{1, "hello", true, true}, {2, "cookie", true, true}, {3, "join", false, true}, {4, "admit", false, true},
		{5, "want", false, true}, {6, "grant", false, true}, {7, "ping", false, false}, {8, "ack", false, false},
		{9, "request", false, false}, {10, "sync", false, false}, {11, "delta", false, true}, {12, "attest", false, true},
		{13, "meta", false, false}, {14, "leave", false, true},
	} {
		if Word(c.kind) != c.word || Plain(c.kind) != c.plain || Seeds(c.kind) != c.seeds {
			t.Errorf("%d: %q, %t, %t", c.kind, Word(c.kind), Plain(c.kind), Seeds(c.kind))
		}
	}
}

func TestOfNoKind(t *testing.T) {
	l := wrongKinds()
	for kind := 15; kind < 70000; kind++ {
		l = append(l, kind, -kind)
	}
	for _, kind := range l {
		if Word(kind) != "" || Plain(kind) || Seeds(kind) {
			t.Errorf("%d: %q, %t, %t", kind, Word(kind), Plain(kind), Seeds(kind))
		}
	}
}

// P14.2: Size.

func TestSize(t *testing.T) {
	p := tagged(Ping)
	for n := -300; n < 70000; n++ {
		want := 0
		if n >= 0 && n <= 512 {
			p.Body = filled(n)
			b, _ := Bytes(p)
			want = len(b)
			if want != 52+n {
				t.Errorf("%d: %d bytes", n, want)
			}
		}
		if Size(n) != want {
			t.Errorf("%d: %d, not %d", n, Size(n), want)
		}
	}
	for _, n := range []int{math.MinInt, math.MinInt + 1, -52, 1 << 32, 1<<32 + 7, math.MaxInt - 51, math.MaxInt} {
		if Size(n) != 0 {
			t.Errorf("%d: %d", n, Size(n))
		}
	}
}

// P14.2: Same.

func TestSame(t *testing.T) {
	for _, kind := range append(rightKinds(), wrongKinds()...) {
		if !Same(tagged(kind), tagged(kind)) || Same(tagged(kind), tagged(kind+1)) {
			t.Error(kind)
		}
	}
	for i, set := range unlike() {
		p, q := tagged(Sync), tagged(Sync)
		set(&q)
		if Same(p, q) || Same(q, p) || !Same(q, q) {
			t.Errorf("%d: %v", i, q)
		}
	}
	if !Same(Packet{}, Packet{}) || Same(Packet{}, tagged(Sync)) {
		t.Error("of the zero packet")
	}
}

// No body and an empty one say the same.
func TestSameOfNoBody(t *testing.T) {
	for _, kind := range rightKinds() {
		p, q := tagged(kind), tagged(kind)
		p.Body, q.Body = nil, []byte{}
		one, _ := Bytes(p)
		two, _ := Bytes(q)
		if !Same(p, q) || !Same(q, p) || !bytes.Equal(one, two) {
			t.Error(kind)
		}
		q.Body = []byte{0}
		if Same(p, q) || Same(q, p) {
			t.Error(kind)
		}
	}
}

// P14.2: Kinds.

func counts(t *testing.T, want [15]int, l ...Packet) {
	t.Helper()
	if n := Kinds(l...); n != want {
		t.Errorf("%v, not %v", n, want)
	}
}

func TestKinds(t *testing.T) {
	counts(t, [15]int{})
	counts(t, [15]int{}, []Packet{}...)
	for _, kind := range rightKinds() {
		want := [15]int{}
		want[kind] = 1
		counts(t, want, some(kind))
		want[kind] = 3
		counts(t, want, some(kind), tagged(kind), some(kind))
	}
	for _, kind := range wrongKinds() {
		counts(t, [15]int{1}, some(kind))
		counts(t, [15]int{2, 7: 1}, some(kind), some(7), tagged(kind))
	}
	counts(t, [15]int{1, 7: 2, 14: 1}, some(7), some(14), Packet{}, some(7))
}

// Whether the rest of a packet is right, Kinds doesn't ask.
func TestKindsOfWhatIsntRight(t *testing.T) {
	counts(t, [15]int{7: 1, 1: 1}, Packet{Kind: 7}, Packet{Kind: 1, Tag: [32]byte{1}})
	var l []Packet
	want := [15]int{}
	for _, w := range wrong() {
		l = append(l, w.p)
		switch w.want {
		case api.ErrKind:
			want[0]++
		default:
			want[w.p.Kind]++
		}
	}
	counts(t, want, l...)
}
