package packet

import (
	"bytes"
	"math"
	"math/rand"
	"slices"
	"testing"

	"vigil/api"
	"vigil/claims"
	"vigil/mac"
	"vigil/window"
)

// P14.3: there and back a packet is as it was; of a tagged one, of whose head a byte is
// turned, the tag doesn't hold.

// drawn is a packet of the kind by a fixed row of draws, so that each run has the same
// ones; of a kind that isn't plain it has a tag under the key.
func drawn(t *testing.T, draws *rand.Rand, kind int, key []byte) Packet {
	t.Helper()
	p := Packet{
		Kind:  kind,
		From:  claims.Claims{Id: 1 + draws.Intn(65535), Roles: draws.Intn(256), Expiry: draws.Intn(1<<30 + 1), Serial: 1 + draws.Intn(65535)},
		To:    draws.Intn(65536),
		Nonce: window.Nonce{Boot: 1 + draws.Intn(65535), Counter: 1 + draws.Intn(1<<31-1)},
		Body:  make([]byte, draws.Intn(draws.Intn(513)+1)),
	}
	draws.Read(p.Body)
	if kind <= 2 {
		return p
	}
	return tags(t, p, key)
}

func TestThereAndBack(t *testing.T) {
	draws := rand.New(rand.NewSource(14))
	for _, kind := range rightKinds() {
		for range 500 {
			key := make([]byte, draws.Intn(100))
			draws.Read(key)
			p := drawn(t, draws, kind, key)
			b, e := Bytes(p)
			if e != api.OK || !bytes.Equal(b, asBytes(p)) || len(b) != Size(len(p.Body)) {
				t.Errorf("%v: %x, %d", p, b, e)
			}
			q, e := Parse(b)
			if e != api.OK || !equal(p, q) || !Same(p, q) || q.Holds(mac.New(key)) != (kind > 2) {
				t.Errorf("%v: %v, %d", p, q, e)
			}
			if again, e := Bytes(q); e != api.OK || !bytes.Equal(again, b) {
				t.Errorf("%v: %x, not %x, %d", p, again, b, e)
			}
		}
	}
}

// What is there and back of any bytes that Parse takes, whoever made them.
func TestBytesOfWhatWasParsed(t *testing.T) {
	draws := rand.New(rand.NewSource(15))
	taken := 0
	for range 60000 {
		b := asBytes(drawn(t, draws, 3+draws.Intn(12), nil))
		for range draws.Intn(4) {
			b[draws.Intn(min(len(b), 24))] ^= 1 << draws.Intn(8)
		}
		p, e := Parse(b)
		if e != api.OK {
			if !none(p) || e != api.ErrEnd && e != api.ErrForm && e != api.ErrKind {
				t.Errorf("%x: %v, %d", b, p, e)
			}
			continue
		}
		taken++
		if again, e := Bytes(p); e != api.OK || !bytes.Equal(again, b) {
			t.Errorf("%x: %x, %d", b, again, e)
		}
	}
	if taken < 20000 || taken > 55000 {
		t.Errorf("a row that tells little: %d", taken)
	}
}

func TestATurnedByteIsTold(t *testing.T) {
	draws := rand.New(rand.NewSource(16))
	key := mac.New([]byte("a key"))
	still := 0
	for _, kind := range rightKinds()[2:] {
		for range 10 {
			b, _ := Bytes(drawn(t, draws, kind, []byte("a key")))
			for i := range b {
				turned := slices.Clone(b)
				turned[i] ^= byte(1 + draws.Intn(255))
				p, e := Parse(turned)
				if p.Holds(key) {
					t.Errorf("kind %d, byte %d: %x", kind, i, turned)
				}
				if e == api.OK {
					still++
				}
			}
		}
	}
	if still < 10000 {
		t.Errorf("a row that tells little: %d", still)
	}
}

// A byte more or less, or a body's byte that goes into the tag: not one of these holds.
func TestCutsDontHold(t *testing.T) {
	draws := rand.New(rand.NewSource(17))
	key := mac.New([]byte("a key"))
	for range 300 {
		p := drawn(t, draws, 3+draws.Intn(12), []byte("a key"))
		if len(p.Body) == 0 {
			continue
		}
		q := p
		q.Body = p.Body[:len(p.Body)-1]
		if q.Holds(key) {
			t.Errorf("%v", q)
		}
		copy(q.Tag[1:], p.Tag[:])
		q.Tag[0] = p.Body[len(p.Body)-1]
		if q.Holds(key) {
			t.Errorf("%v", q)
		}
	}
}

// P1 and P2: every call ends, none panics, and the same calls answer the same.

func story(p Packet, key *mac.Key) []any {
	b, e := Bytes(p)
	head, f := Head(p)
	q, g := p.Tagged(key)
	x, h := Parse(b)
	return []any{
		Check(p), string(b), e, string(head), f, q.Tag, string(q.Body), g, x.Tag, string(x.Body), h,
		p.Holds(key), q.Holds(key), Plain(p.Kind), Seeds(p.Kind), Word(p.Kind), Size(p.To), Same(p, q), Same(p, x), Kinds(p, q, x),
	}
}

func TestTheSameCallsAnswerTheSame(t *testing.T) {
	all := right()
	for _, w := range wrong() {
		all = append(all, w.p)
	}
	for _, key := range []*mac.Key{nil, {}, mac.New([]byte("a key"))} {
		for _, p := range all {
			if !slices.Equal(story(p, key), story(p, key)) {
				t.Errorf("%v", p)
			}
		}
	}
}

func TestAnyNumbers(t *testing.T) {
	numbers := []int{math.MinInt, -1, 0, 1, 7, 65535, 65536, math.MaxInt}
	for _, kind := range numbers {
		for _, n := range numbers {
			for _, m := range numbers {
				p := Packet{Kind: kind, From: claims.Claims{Id: n, Roles: m, Expiry: n, Serial: m}, To: m, Nonce: window.Nonce{Boot: n, Counter: m}}
				story(p, nil)
				story(p, mac.New(nil))
			}
		}
	}
}

func FuzzParse(f *testing.F) {
	f.Add([]byte{})
	f.Add(asBytes(some(Hello)))
	f.Add(asBytes(tagged(Sync)))
	f.Add(make([]byte, 1025))
	f.Fuzz(func(t *testing.T, b []byte) {
		p, e := Parse(b)
		if e != api.OK {
			if !none(p) {
				t.Errorf("%x: %v, %d", b, p, e)
			}
			return
		}
		if Check(p) != api.OK || !bytes.Equal(asBytes(p), b) {
			t.Errorf("%x: %v", b, p)
		}
	})
}

func BenchmarkThereAndBack(b *testing.B) {
	p, _ := tagged(Sync).Tagged(mac.New([]byte("a key")))
	for b.Loop() {
		x, _ := Bytes(p)
		Parse(x)
	}
}
