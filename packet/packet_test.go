package packet

import (
	"bytes"
	"encoding/binary"
	"math"
	"slices"
	"testing"

	"vigil/api"
	"vigil/claims"
	"vigil/window"
)

// wrongKinds is numbers that are no kind's: of those above 255 the last byte is one's.
func wrongKinds() []int {
	return []int{0, -1, -7, 15, 16, 255, 256, 257, 263, 1 << 16, 1<<32 + 7, math.MinInt, math.MinInt + 7, math.MaxInt}
}

func rightKinds() []int {
	return []int{1, 2, 3, 4, 5, 6, 7, 8, 9, 10, 11, 12, 13, 14}
}

func rightClaims() []claims.Claims {
	return []claims.Claims{
		{Id: 1, Roles: 0, Expiry: 0, Serial: 1}, {Id: 65535, Roles: 255, Expiry: 1 << 30, Serial: 65535},
		{Id: 258, Roles: 3, Expiry: 5, Serial: 7}, {Id: 0x0102, Roles: 4, Expiry: 0x05060708, Serial: 0x090a},
	}
}

// wrongClaims is those of which one number is below what it may be, or above.
func wrongClaims() []claims.Claims {
	return []claims.Claims{
		{}, {Id: 0, Roles: 3, Expiry: 5, Serial: 7}, {Id: -1, Roles: 3, Expiry: 5, Serial: 7}, {Id: 65536, Roles: 3, Expiry: 5, Serial: 7},
		{Id: 258, Roles: -1, Expiry: 5, Serial: 7}, {Id: 258, Roles: 256, Expiry: 5, Serial: 7},
		{Id: 258, Roles: 3, Expiry: -1, Serial: 7}, {Id: 258, Roles: 3, Expiry: 1<<30 + 1, Serial: 7},
		{Id: 258, Roles: 3, Expiry: 5, Serial: 0}, {Id: 258, Roles: 3, Expiry: 5, Serial: -1}, {Id: 258, Roles: 3, Expiry: 5, Serial: 65536},
	}
}

func rightPlaces() []int {
	return []int{0, 1, 2, 255, 256, 258, 65534, 65535}
}

func wrongPlaces() []int {
	return []int{-1, -2, -65535, 65536, 65537, 1 << 30, 1<<32 + 7, math.MinInt, math.MaxInt}
}

func rightNonces() []window.Nonce {
	return []window.Nonce{{Boot: 1, Counter: 1}, {Boot: 65535, Counter: 1<<31 - 1}, {Boot: 258, Counter: 0x01020304}, {Boot: 1, Counter: 77}}
}

func wrongNonces() []window.Nonce {
	return []window.Nonce{
		{}, {Boot: 0, Counter: 9}, {Boot: -1, Counter: 9}, {Boot: 65536, Counter: 9},
		{Boot: 7, Counter: 0}, {Boot: 7, Counter: -1}, {Boot: 7, Counter: 1 << 31}, {Boot: 7, Counter: 1<<32 + 9},
	}
}

// filled is so many bytes, no two of which that are next to one another are the same.
func filled(n int) []byte {
	b := make([]byte, n)
	for i := range b {
		b[i] = byte(i*7 + 1)
	}
	return b
}

// some is a packet of the kind that is right; without a tag.
func some(kind int) Packet {
	return Packet{
		Kind: kind, From: claims.Claims{Id: 0x0102, Roles: 4, Expiry: 0x05060708, Serial: 0x090a}, To: 0x0b0c,
		Nonce: window.Nonce{Boot: 0x0d0e, Counter: 0x0f101112}, Body: []byte("hello"),
	}
}

// tagged is such a packet whose tag, unless it is of a plain kind, is some bytes.
func tagged(kind int) Packet {
	p := some(kind)
	if kind > 2 {
		copy(p.Tag[:], filled(32))
	}
	return p
}

// right is packets of all kinds with each of the parts at the ends of its limits.
func right() []Packet {
	var l []Packet
	for _, kind := range rightKinds() {
		l = append(l, some(kind), tagged(kind))
		for _, c := range rightClaims() {
			p := tagged(kind)
			p.From = c
			l = append(l, p)
		}
		for _, to := range rightPlaces() {
			p := tagged(kind)
			p.To = to
			l = append(l, p)
		}
		for _, n := range rightNonces() {
			p := tagged(kind)
			p.Nonce = n
			l = append(l, p)
		}
		for _, long := range []int{0, 1, 2, 255, 256, 511, 512} {
			p := tagged(kind)
			p.Body = filled(long)
			l = append(l, p)
		}
		p := tagged(kind)
		p.Body = nil
		l = append(l, p)
	}
	return l
}

// A fault is how a packet is made one that isn't right, and what Check tells then.
type fault struct {
	make func(p *Packet)
	want api.Errno
}

// faults is in the order in which the document has the errors; the last ones only are of
// plain kinds.
func faults() []fault {
	var l []fault
	for _, kind := range wrongKinds() {
		l = append(l, fault{func(p *Packet) { p.Kind = kind }, api.ErrKind})
	}
	for _, c := range wrongClaims() {
		l = append(l, fault{func(p *Packet) { p.From = c }, api.ErrRange})
	}
	for _, to := range wrongPlaces() {
		l = append(l, fault{func(p *Packet) { p.To = to }, api.ErrRange})
	}
	for _, n := range wrongNonces() {
		l = append(l, fault{func(p *Packet) { p.Nonce = n }, api.ErrRange})
	}
	for _, long := range []int{513, 514, 1024, 70000} {
		l = append(l, fault{func(p *Packet) { p.Body = filled(long) }, api.ErrLong})
	}
	return l
}

func tagFaults() []fault {
	var l []fault
	for at := range 32 {
		for _, x := range []byte{1, 128, 255} {
			l = append(l, fault{func(p *Packet) { p.Tag[at] = x }, api.ErrForm})
		}
	}
	return l
}

// A bad is a packet that isn't right, and what Check tells of it.
type bad struct {
	p    Packet
	want api.Errno
}

// wrong is packets of all kinds that have one fault, or two.
func wrong() []bad {
	var l []bad
	all := faults()
	for _, kind := range rightKinds() {
		own := all
		if kind <= 2 {
			own = append(slices.Clone(all), tagFaults()...)
		}
		for i, f := range own {
			p := tagged(kind)
			f.make(&p)
			l = append(l, bad{p, f.want})
			for k := i + 1; k < len(own); k += 1 + (len(own)-i)/7 {
				p := tagged(kind)
				f.make(&p)
				own[k].make(&p)
				l = append(l, bad{p, f.want})
			}
		}
	}
	return l
}

// asHead and asBytes are a packet's bytes, by the library's own means.
func asHead(p Packet) []byte {
	b := []byte{byte(p.Kind)}
	b = binary.BigEndian.AppendUint16(b, uint16(p.From.Id))
	b = append(b, byte(p.From.Roles))
	b = binary.BigEndian.AppendUint32(b, uint32(p.From.Expiry))
	b = binary.BigEndian.AppendUint16(b, uint16(p.From.Serial))
	b = binary.BigEndian.AppendUint16(b, uint16(p.To))
	b = binary.BigEndian.AppendUint16(b, uint16(p.Nonce.Boot))
	b = binary.BigEndian.AppendUint32(b, uint32(p.Nonce.Counter))
	b = binary.BigEndian.AppendUint16(b, uint16(len(p.Body)))
	return append(b, p.Body...)
}

func asBytes(p Packet) []byte {
	return append(asHead(p), p.Tag[:]...)
}

// equal is Same, by the test's own means.
func equal(a, b Packet) bool {
	return a.Kind == b.Kind && a.From == b.From && a.To == b.To && a.Nonce == b.Nonce && string(a.Body) == string(b.Body) && a.Tag == b.Tag
}

// none is whether it is the zero packet, all of it.
func none(p Packet) bool {
	return equal(p, Packet{}) && len(p.Body) == 0
}

// P14.1: Check.

func TestCheck(t *testing.T) {
	for _, p := range right() {
		if e := Check(p); e != api.OK {
			t.Errorf("%v: %d", p, e)
		}
	}
}

func TestCheckOfKinds(t *testing.T) {
	for kind := -300; kind < 70000; kind++ {
		want := api.ErrKind
		if kind >= 1 && kind <= 14 {
			want = api.OK
		}
		if e := Check(some(kind)); e != want {
			t.Errorf("%d: %d, not %d", kind, e, want)
		}
	}
}

func TestCheckOfPlacesAndBodies(t *testing.T) {
	p := tagged(Sync)
	for p.To = -300; p.To < 70000; p.To++ {
		want := api.ErrRange
		if p.To >= 0 && p.To <= 65535 {
			want = api.OK
		}
		if e := Check(p); e != want {
			t.Errorf("place %d: %d, not %d", p.To, e, want)
		}
	}
	p = tagged(Sync)
	for long := range 1200 {
		p.Body = filled(long)
		want := api.ErrLong
		if long <= 512 {
			want = api.OK
		}
		if e := Check(p); e != want {
			t.Errorf("a body of %d: %d, not %d", long, e, want)
		}
	}
}

func TestCheckOfWhatIsntRight(t *testing.T) {
	for _, w := range wrong() {
		if e := Check(w.p); e != w.want {
			t.Errorf("%v: %d, not %d", w.p, e, w.want)
		}
	}
}

// Which error comes first, where several things aren't right.
func TestCheckTellsTheFirstError(t *testing.T) {
	p := Packet{Body: filled(513), Tag: [32]byte{31: 1}}
	for _, c := range []struct {
		mend func()
		want api.Errno
	}{
		{func() {}, api.ErrKind},
		{func() { p.Kind = Cookie }, api.ErrRange},
		{func() { p.From = claims.Claims{Id: 1, Serial: 1} }, api.ErrRange},
		{func() { p.To, p.Nonce = -1, window.Nonce{Boot: 1, Counter: 1} }, api.ErrRange},
		{func() { p.To = 0 }, api.ErrLong},
		{func() { p.Body = filled(512) }, api.ErrForm},
		{func() { p.Tag[31] = 0 }, api.OK},
	} {
		c.mend()
		if e := Check(p); e != c.want {
			t.Errorf("%v: %d, not %d", p, e, c.want)
		}
	}
}

// Only plain kinds must have no tag.
func TestCheckOfTags(t *testing.T) {
	for _, kind := range rightKinds() {
		for _, f := range tagFaults() {
			p := some(kind)
			f.make(&p)
			want := api.OK
			if kind == 1 || kind == 2 {
				want = api.ErrForm
			}
			if e := Check(p); e != want {
				t.Errorf("%d, %x: %d, not %d", kind, p.Tag, e, want)
			}
		}
	}
}

// P14.1: Bytes and Head.

func TestBytesAndHead(t *testing.T) {
	for _, p := range right() {
		b, e := Bytes(p)
		if !bytes.Equal(b, asBytes(p)) || e != api.OK {
			t.Errorf("%v: %x, %d", p, b, e)
		}
		head, e := Head(p)
		if !bytes.Equal(head, asHead(p)) || e != api.OK || !bytes.Equal(head, b[:len(b)-32]) {
			t.Errorf("%v: %x, %d", p, head, e)
		}
	}
}

func TestBytesAreAsTheyStand(t *testing.T) {
	p := some(Leave)
	for i := range p.Tag {
		p.Tag[i] = byte(0x80 + i)
	}
	want := []byte{14, 1, 2, 4, 5, 6, 7, 8, 9, 10, 11, 12, 13, 14, 15, 16, 17, 18, 0, 5, 'h', 'e', 'l', 'l', 'o'}
	if head, e := Head(p); !bytes.Equal(head, want) || e != api.OK {
		t.Errorf("%x, %d", head, e)
	}
	for i := range 32 {
		want = append(want, byte(0x80+i))
	}
	if b, e := Bytes(p); !bytes.Equal(b, want) || e != api.OK {
		t.Errorf("%x, %d", b, e)
	}
}

// The document's example: a ping without a body.
func TestPingWithoutABody(t *testing.T) {
	p := tagged(Ping)
	p.Body = nil
	b, e := Bytes(p)
	if len(b) != 52 || e != api.OK {
		t.Errorf("%d, %d", len(b), e)
	}
	p.Body = filled(Longest)
	if b, e := Bytes(p); len(b) != 52+512 || e != api.OK {
		t.Errorf("%d, %d", len(b), e)
	}
}

func TestBytesOfWhatIsntRight(t *testing.T) {
	for _, w := range wrong() {
		if b, e := Bytes(w.p); len(b) != 0 || e != w.want {
			t.Errorf("%v: %x, %d, not %d", w.p, b, e, w.want)
		}
		if b, e := Head(w.p); len(b) != 0 || e != w.want {
			t.Errorf("%v: head %x, %d, not %d", w.p, b, e, w.want)
		}
	}
}

// P14.1: Parse.

// parses fails unless the bytes are that packet, or have that error.
func parses(t *testing.T, b []byte, want Packet, e api.Errno) {
	t.Helper()
	if p, err := Parse(b); !equal(p, want) || err != e {
		t.Errorf("%x: %v, %d, not %v, %d", b[:min(len(b), 60)], p, err, want, e)
	}
}

func refuses(t *testing.T, b []byte, e api.Errno) {
	t.Helper()
	if p, err := Parse(b); !none(p) || err != e {
		t.Errorf("%d bytes, %x: %v, %d, not %d", len(b), b[:min(len(b), 60)], p, err, e)
	}
}

func TestParse(t *testing.T) {
	for _, p := range right() {
		parses(t, asBytes(p), p, api.OK)
		b, _ := Bytes(p)
		parses(t, b, p, api.OK)
	}
}

func TestParseOfTooFewBytes(t *testing.T) {
	refuses(t, nil, api.ErrEnd)
	refuses(t, []byte{}, api.ErrEnd)
	for _, kind := range rightKinds() {
		for _, long := range []int{0, 1, 5, 300, 512} {
			p := tagged(kind)
			p.Body = filled(long)
			b := asBytes(p)
			for n := range b {
				refuses(t, b[:n], api.ErrEnd)
			}
		}
	}
}

func TestParseOfBytesThatAreLeft(t *testing.T) {
	for _, p := range []Packet{some(Hello), tagged(Ping), tagged(Leave)} {
		for _, long := range []int{0, 5, 512} {
			p.Body = filled(long)
			b := asBytes(p)
			for _, left := range []int{1, 2, 32, 52, 1024 - len(b)} {
				refuses(t, append(slices.Clone(b), make([]byte, left)...), api.ErrForm)
				refuses(t, append(slices.Clone(b), filled(left)...), api.ErrForm)
			}
		}
	}
}

// However many they are, bytes above 1024 aren't looked at.
func TestParseOfTooManyBytes(t *testing.T) {
	for _, kind := range append(rightKinds(), 0, 15) {
		for _, long := range []int{1025, 1026, 2000, 70000} {
			b := make([]byte, long)
			copy(b, asBytes(some(kind)))
			refuses(t, b, api.ErrLong)
		}
	}
	refuses(t, make([]byte, 1024), api.ErrKind)
	refuses(t, append(asBytes(tagged(Ping)), make([]byte, 1024-57)...), api.ErrForm)
}

func TestParseOfNoKind(t *testing.T) {
	for kind := range 256 {
		b := asBytes(some(7))
		b[0] = byte(kind)
		if kind < 1 || kind > 14 {
			refuses(t, b, api.ErrKind)
			refuses(t, append(b, 0), api.ErrKind) // ahead of what is left
			b[1], b[2] = 0, 0                     // and of the claims
			b[len(b)-1] = 1
			refuses(t, b, api.ErrKind)
			refuses(t, b[:len(b)-1], api.ErrEnd) // behind what isn't there
			refuses(t, b[:1], api.ErrEnd)
			continue
		}
		p := some(7)
		p.Kind = kind
		parses(t, b, p, api.OK)
	}
}

// Whatever of the parts isn't right, as far as bytes can say it.
func TestParseOfPartsThatArentRight(t *testing.T) {
	for _, kind := range rightKinds() {
		for _, set := range []func(p *Packet){
			func(p *Packet) { p.From.Id = 0 }, func(p *Packet) { p.From.Serial = 0 },
			func(p *Packet) { p.From.Expiry = 1<<30 + 1 }, func(p *Packet) { p.From.Expiry = 1<<32 - 1 },
			func(p *Packet) { p.From = claims.Claims{} },
			func(p *Packet) { p.Nonce.Boot = 0 }, func(p *Packet) { p.Nonce.Counter = 0 },
			func(p *Packet) { p.Nonce.Counter = 1 << 31 }, func(p *Packet) { p.Nonce.Counter = 1<<32 - 1 },
			func(p *Packet) { p.Nonce = window.Nonce{} },
		} {
			p := tagged(kind)
			set(&p)
			b := asBytes(p)
			refuses(t, b, api.ErrForm)
			refuses(t, append(b, 1), api.ErrForm)
			refuses(t, b[:len(b)-1], api.ErrEnd) // behind what isn't there
			refuses(t, b[:18], api.ErrEnd)
		}
	}
}

// Each place that two bytes can say is one.
func TestParseOfPlaces(t *testing.T) {
	for to := range 65536 {
		p := tagged(Ping)
		p.To = to
		parses(t, asBytes(p), p, api.OK)
	}
}

// A count of more than 512 is no field, whether its bytes are there or not: that comes
// ahead of the kind, as a field that isn't there does.
func TestParseOfBodies(t *testing.T) {
	for _, kind := range []int{0, 1, 2, 7, 15} {
		for _, count := range []int{513, 514, 600, 960, 1000, 65535} {
			p := some(kind)
			p.Body = nil
			b := asHead(p)
			b[18], b[19] = byte(count>>8), byte(count)
			refuses(t, b, api.ErrForm)
			for _, there := range []int{1, 511, 513, 600, 1004} {
				refuses(t, append(slices.Clone(b), make([]byte, there)...), api.ErrForm)
			}
		}
	}
	p := tagged(Ping)
	p.Body = filled(512)
	b := asBytes(p)
	b[18], b[19] = 1, 255 // one less: a byte is left
	refuses(t, b, api.ErrForm)
	p.Body = filled(511)
	b = asBytes(p)
	b[18], b[19] = 2, 0 // one more: a byte of the tag isn't there
	refuses(t, b, api.ErrEnd)
}

func TestParseOfPlainKindsWithATag(t *testing.T) {
	for _, kind := range rightKinds() {
		for _, f := range tagFaults() {
			p := some(kind)
			f.make(&p)
			if kind <= 2 {
				refuses(t, asBytes(p), api.ErrForm)
			} else {
				parses(t, asBytes(p), p, api.OK)
			}
		}
	}
}

// What is handed in isn't changed, and what is answered is its own.

func TestNothingHandedInIsChanged(t *testing.T) {
	for _, p := range []Packet{some(Hello), tagged(Sync)} {
		body := filled(600)[:300:600]
		p.Body = body
		Check(p)
		Bytes(p)
		Head(p)
		Same(p, p)
		Kinds(p, p)
		if !bytes.Equal(body[:600], filled(600)) {
			t.Error("a body was changed")
		}
		b := asBytes(p)
		whole := slices.Clone(b)
		if _, e := Parse(b[:len(b):len(b)]); e != api.OK || !bytes.Equal(b, whole) {
			t.Error("bytes were changed", e)
		}
	}
}

func TestAnswersAreNewMemory(t *testing.T) {
	p := tagged(Sync)
	b, _ := Bytes(p)
	head, _ := Head(p)
	other, _ := Bytes(p)
	p.Body[0] ^= 255
	p.Tag[0] ^= 255
	if !bytes.Equal(b, asBytes(tagged(Sync))) || !bytes.Equal(head, asHead(tagged(Sync))) {
		t.Error("bytes hang on the packet")
	}
	read, _ := Parse(b)
	for i := range b {
		b[i] ^= 255
	}
	for i := range head {
		head[i] ^= 255
	}
	if !equal(read, tagged(Sync)) || !bytes.Equal(other, asBytes(tagged(Sync))) {
		t.Error("answers hang on one another")
	}
	again, _ := Parse(other)
	read.Body[1] ^= 255
	_ = append(read.Body, filled(40)...)
	if !equal(again, tagged(Sync)) || read.Tag != again.Tag || !bytes.Equal(other, asBytes(tagged(Sync))) {
		t.Error("packets hang on one another")
	}
}
