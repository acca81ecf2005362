package seal

import (
	"bytes"
	"crypto/hmac"
	"crypto/sha256"
	"encoding/binary"
	"encoding/hex"
	"math"
	"slices"
	"testing"

	"vigil/api"
	"vigil/mac"
)

// The lengths about a block's end, and about the longest that is sealed.
var edges = []int{0, 1, 31, 32, 33, 63, 64, 65, 1000, 65535, 65536}

// The lengths of nonces that are taken.
var nonces = []int{0, 1, 8, 31, 32}

// The lengths of keys about a block's end.
var lengths = []int{0, 1, 32, 64, 65}

// some is so many bytes, no two neighbours of which are the same.
func some(n int) []byte {
	b := make([]byte, n)
	for i := range b {
		b[i] = byte(i*37 + i/64*11 + 5)
	}
	return b
}

// rightTag is the tag, by the library's own means.
func rightTag(key []byte, parts ...[]byte) []byte {
	h := hmac.New(sha256.New, key)
	for _, p := range parts {
		h.Write(p)
	}
	return h.Sum(nil)
}

// framed is the parts, each with its length ahead.
func framed(parts ...[]byte) []byte {
	var out []byte
	for _, p := range parts {
		out = binary.BigEndian.AppendUint32(out, uint32(len(p)))
		out = append(out, p...)
	}
	return out
}

func rightStream(key, nonce []byte, n int) []byte {
	hiding := rightTag(key, framed([]byte("hide")))
	var out []byte
	for i := uint32(0); len(out) < n; i++ {
		out = append(out, rightTag(hiding, []byte{byte(len(nonce))}, nonce, binary.BigEndian.AppendUint32(nil, i))...)
	}
	return out[:n]
}

func rightSealed(key, nonce, bound, b []byte) []byte {
	body := rightStream(key, nonce, len(b))
	for i := range body {
		body[i] ^= b[i]
	}
	return append(body, rightTag(rightTag(key, framed([]byte("bind"))), framed(nonce, bound, body))...)
}

func unhex(t *testing.T, s string) []byte {
	b, err := hex.DecodeString(s)
	if err != nil {
		t.Fatal(err)
	}
	return b
}

// counted is the bytes from 0 on.
func counted(n int) []byte {
	b := make([]byte, n)
	for i := range b {
		b[i] = byte(i)
	}
	return b
}

// P3.1: Seal.

func TestSealOfKnownTexts(t *testing.T) {
	for i, c := range []struct {
		key, nonce, bound, text []byte
		want                    string
	}{
		{[]byte("a key"), []byte("one"), []byte("to bob"), []byte("attack at dawn"), "4e76303ae4fd8a4203478bbf856149880f37995805c7578fbb9f274c39d05808543b73e9c2354d2a989d4c8b6c8a"},
		{nil, nil, nil, nil, "902ef0556509dd83aeddbbb8a18f73f241bfd24f097ae420456afed072d4e469"},
		{counted(32), counted(8), nil, counted(33), "98350adfdd26840863715781c550b8df6bf65a647d199ef9e6e35125aa9f121bcac8255ccbbdfb6825f7bb297f3b7d323c469983f00226ce2e150a3fee85dd44ce"},
		{counted(65), counted(32), counted(256), make([]byte, 40), "fbd3b49a0c8d762f8dcc9969d4d04d794e813e03991f866a74f08d54fb6ac752e16b0d70e19630f8465da5fc609569bd97723abfcd759cfbc274bd86a994df09bbc741e27a058d6d"},
	} {
		got, e := Seal(mac.New(c.key), c.nonce, c.bound, c.text)
		if e != api.OK || hex.EncodeToString(got) != c.want {
			t.Errorf("case %d: %x %d, want %s", i, got, e, c.want)
		}
		back, e := Open(mac.New(c.key), c.nonce, c.bound, unhex(t, c.want))
		if e != api.OK || !bytes.Equal(back, c.text) {
			t.Errorf("case %d opened: %x %d", i, back, e)
		}
	}
	long, _ := Seal(mac.New([]byte("a key")), []byte("one"), []byte("to bob"), make([]byte, Longest))
	if sum := sha256.Sum256(long); hex.EncodeToString(sum[:]) != "b91267fa4d72e54dbc508162794fbf1839f2cf8385a2ab37481642d265079d5d" {
		t.Errorf("the longest: %x", sum)
	}
}

func TestSealAndOpenAtEdges(t *testing.T) {
	for _, n := range nonces {
		for _, m := range edges {
			k, nonce, bound, b := mac.New(some(20)), some(n), some(n*9), some(m)
			want := rightSealed(some(20), nonce, bound, b)
			if got, e := Seal(k, nonce, bound, b); e != api.OK || !bytes.Equal(got, want) || len(got) != m+32 {
				t.Errorf("Seal with a nonce of %d, of %d bytes: %d bytes, %d", n, m, len(got), e)
			}
			if got, e := Open(k, nonce, bound, want); e != api.OK || !bytes.Equal(got, b) {
				t.Errorf("Open with a nonce of %d, of %d bytes: %d bytes, %d", n, m+32, len(got), e)
			}
		}
	}
}

func TestSealOfAllShortLengths(t *testing.T) {
	for n := range 200 {
		nonce, bound := some(n%33), some(200-n)
		if got, e := Seal(mac.New(some(9)), nonce, bound, some(n)); e != api.OK || !bytes.Equal(got, rightSealed(some(9), nonce, bound, some(n))) {
			t.Errorf("%d bytes: %d", n, e)
		}
	}
}

func TestSealUnderKeys(t *testing.T) {
	for _, n := range lengths {
		if got, e := Seal(mac.New(some(n)), some(8), some(3), some(40)); e != api.OK || !bytes.Equal(got, rightSealed(some(n), some(8), some(3), some(40))) {
			t.Errorf("key of %d: %d", n, e)
		}
	}
	if got, e := Seal(&mac.Key{}, nil, nil, some(40)); e != api.OK || !bytes.Equal(got, rightSealed(nil, nil, nil, some(40))) {
		t.Errorf("a zero key: %d", e)
	}
}

// Each of a length's four bytes counts.
func TestSealOfLongBounds(t *testing.T) {
	for _, n := range []int{255, 256, 65535, 65536, 65537, 1<<24 + 1<<16 + 1<<8 + 1} {
		bound := make([]byte, n)
		got, e := Seal(mac.New(some(20)), some(8), bound, some(5))
		if e != api.OK || !bytes.Equal(got, rightSealed(some(20), some(8), bound, some(5))) {
			t.Errorf("bound of %d: %d", n, e)
		}
	}
}

func TestSealOfWhatIsWrong(t *testing.T) {
	k := mac.New(some(20))
	for i, c := range []struct {
		key    *mac.Key
		nonce  int
		length int
		want   api.Errno
	}{
		{nil, 0, 0, api.ErrArg}, {nil, 32, 65536, api.ErrArg}, {nil, 32, 65537, api.ErrArg}, {nil, 33, 65537, api.ErrArg},
		{k, 33, 0, api.ErrArg}, {k, 33, 65536, api.ErrArg}, {k, 33, 65537, api.ErrArg}, {k, 256, 3, api.ErrArg}, {k, 264, 3, api.ErrArg},
		{k, 0, 65537, api.ErrLong}, {k, 32, 65537, api.ErrLong}, {k, 8, 1 << 20, api.ErrLong}, {&mac.Key{}, 8, 65537, api.ErrLong},
	} {
		if got, e := Seal(c.key, some(c.nonce), nil, make([]byte, c.length)); e != c.want || got != nil {
			t.Errorf("case %d: %d bytes, %d, want %d", i, len(got), e, c.want)
		}
	}
}

// P3.1: Open.

func TestOpenOfWhatIsWrong(t *testing.T) {
	k := mac.New(some(20))
	for i, c := range []struct {
		key    *mac.Key
		nonce  int
		length int
		want   api.Errno
	}{
		{nil, 8, 0, api.ErrArg}, {nil, 8, 31, api.ErrArg}, {nil, 8, 32, api.ErrArg}, {nil, 8, 65568, api.ErrArg}, {nil, 8, 65569, api.ErrArg},
		{k, 33, 0, api.ErrArg}, {k, 33, 31, api.ErrArg}, {k, 33, 32, api.ErrArg}, {k, 33, 65568, api.ErrArg}, {k, 33, 65569, api.ErrArg}, {k, 264, 40, api.ErrArg},
		{k, 8, 0, api.ErrEnd}, {k, 0, 1, api.ErrEnd}, {k, 32, 31, api.ErrEnd}, {&mac.Key{}, 32, 31, api.ErrEnd},
		{k, 8, 65569, api.ErrLong}, {k, 32, 65569, api.ErrLong}, {k, 0, 1 << 20, api.ErrLong},
		{k, 0, 32, api.ErrTag}, {k, 8, 33, api.ErrTag}, {k, 32, 65567, api.ErrTag}, {k, 32, 65568, api.ErrTag}, {&mac.Key{}, 8, 32, api.ErrTag},
	} {
		if got, e := Open(c.key, some(c.nonce), some(3), make([]byte, c.length)); e != c.want || got != nil {
			t.Errorf("case %d: %d bytes, %d, want %d", i, len(got), e, c.want)
		}
	}
}

// What is too long is refused even if its tag is right.
func TestOpenOfTooLongWithARightTag(t *testing.T) {
	long := rightSealed(some(20), some(8), nil, make([]byte, Longest+1))
	if got, e := Open(mac.New(some(20)), some(8), nil, long); e != api.ErrLong || got != nil {
		t.Errorf("%d bytes, %d", len(got), e)
	}
	nonce := some(33)
	if got, e := Open(mac.New(some(20)), nonce, nil, rightSealed(some(20), nonce, nil, some(9))); e != api.ErrArg || got != nil {
		t.Errorf("a nonce of 33: %d bytes, %d", len(got), e)
	}
}

func TestOpenOfATagWithABitTurned(t *testing.T) {
	k := mac.New(some(20))
	for _, n := range []int{0, 1, 31, 32, 33, 64, 65536} {
		sealed := rightSealed(some(20), some(8), some(3), some(n))
		for bit := range 8 * 32 {
			if n > 100 && bit%37 != 0 {
				continue
			}
			sealed[n+bit/8] ^= 1 << (bit % 8)
			if got, e := Open(k, some(8), some(3), sealed); e != api.ErrTag || got != nil {
				t.Fatalf("%d bytes, bit %d: %d bytes, %d", n, bit, len(got), e)
			}
			sealed[n+bit/8] ^= 1 << (bit % 8)
		}
	}
}

// P3.1: Stream.

func TestStreamOfKnownTexts(t *testing.T) {
	for i, c := range []struct {
		key, nonce []byte
		want       string
	}{
		{[]byte("a key"), []byte("one"), "2f02445b8796aa237767efdef20f1a9d90a495398680b6032b1f5abc96492dd184bdb0d6b0429588"},
		{nil, nil, "13028d61cb2263045282fb2e124cf585cef95f7c793f2acc03cb540e3333a8a8"},
		{counted(32), counted(32), "e1f8a5f1608637aeeccc973e6caa4ae7b89b7d05389f4f3b4d51aa2eb226760d6327ea5c4054393e6221e3e5c377683ecbdf5ac4dc11b9c1eb34ee44ef6ac42410"},
	} {
		got, e := Stream(mac.New(c.key), c.nonce, len(c.want)/2)
		if e != api.OK || hex.EncodeToString(got) != c.want {
			t.Errorf("case %d: %x %d, want %s", i, got, e, c.want)
		}
	}
	long, _ := Stream(mac.New([]byte("a key")), []byte("one"), Longest)
	if sum := sha256.Sum256(long); hex.EncodeToString(sum[:]) != "0a7059ed1883757f8db305a4917325a0dc9e46235dffe855eee3c50ca2fe0c27" {
		t.Errorf("the longest: %x", sum)
	}
}

func TestStreamAtEdges(t *testing.T) {
	for _, n := range nonces {
		whole := rightStream(some(20), some(n), Longest)
		for _, m := range append(upTo(200), edges...) {
			if got, e := Stream(mac.New(some(20)), some(n), m); e != api.OK || !bytes.Equal(got, whole[:m]) {
				t.Errorf("nonce of %d, %d bytes: %d bytes, %d", n, m, len(got), e)
			}
		}
	}
	for _, n := range lengths {
		if got, e := Stream(mac.New(some(n)), some(8), 70); e != api.OK || !bytes.Equal(got, rightStream(some(n), some(8), 70)) {
			t.Errorf("key of %d: %d", n, e)
		}
	}
}

// upTo is the numbers from 0 on.
func upTo(n int) []int {
	var out []int
	for i := range n {
		out = append(out, i)
	}
	return out
}

func TestStreamOfWhatIsWrong(t *testing.T) {
	k := mac.New(some(20))
	for i, c := range []struct {
		key   *mac.Key
		nonce int
		n     int
		want  api.Errno
	}{
		{nil, 8, 0, api.ErrArg}, {nil, 8, 40, api.ErrArg}, {nil, 8, -1, api.ErrArg}, {nil, 8, 65537, api.ErrArg},
		{k, 33, 0, api.ErrArg}, {k, 33, 40, api.ErrArg}, {k, 33, -1, api.ErrArg}, {k, 33, 65537, api.ErrArg}, {k, 264, 40, api.ErrArg},
		{k, 8, -1, api.ErrArg}, {k, 0, -32, api.ErrArg}, {k, 32, math.MinInt, api.ErrArg},
		{k, 8, 65537, api.ErrLong}, {k, 32, math.MaxInt, api.ErrLong}, {k, 0, math.MaxInt - 31, api.ErrLong}, {&mac.Key{}, 0, 1 << 32, api.ErrLong},
	} {
		if got, e := Stream(c.key, some(c.nonce), c.n); e != c.want || got != nil {
			t.Errorf("case %d: %d bytes, %d, want %d", i, len(got), e, c.want)
		}
	}
}

func TestStreamIsWhatHides(t *testing.T) {
	for _, n := range edges {
		k, b := mac.New(some(20)), some(n)
		stream, _ := Stream(k, some(8), n)
		sealed, _ := Seal(k, some(8), some(3), b)
		zeros, _ := Seal(k, some(8), nil, make([]byte, n))
		if !bytes.Equal(zeros[:n], stream) {
			t.Errorf("%d zeros", n)
		}
		for i := range b {
			if sealed[i] != b[i]^stream[i] {
				t.Fatalf("%d bytes: at %d", n, i)
			}
		}
	}
}

// Nonces that are the same bytes but for their lengths, or for the number behind
// them, have streams that share no block.
func TestStreamsOfLikeNonces(t *testing.T) {
	blocks := map[string]int{}
	for n := range 33 {
		stream, _ := Stream(mac.New(some(20)), make([]byte, n), 640)
		for block := range slices.Chunk(stream, 32) {
			if other, there := blocks[string(block)]; there {
				t.Errorf("a block of %d bytes 0 and of %d", other, n)
			}
			blocks[string(block)] = n
		}
	}
	if len(blocks) != 33*20 {
		t.Errorf("%d blocks", len(blocks))
	}
}

// P3.1: Size and Masked.

func TestSize(t *testing.T) {
	for _, c := range []struct{ n, want int }{
		{math.MinInt, 0}, {-33, 0}, {-32, 0}, {-1, 0}, {0, 32}, {1, 33}, {5, 37}, {31, 63}, {32, 64},
		{65535, 65567}, {65536, 65568}, {65537, 0}, {65568, 0}, {math.MaxInt - 32, 0}, {math.MaxInt, 0},
	} {
		if got := Size(c.n); got != c.want {
			t.Errorf("Size(%d): %d, want %d", c.n, got, c.want)
		}
	}
	if Longest != 65536 {
		t.Error(Longest)
	}
}

func TestMasked(t *testing.T) {
	for _, c := range []struct{ n, want int }{
		{0, 0}, {1, 0}, {30, 0}, {31, 0}, {32, 0}, {33, 1}, {34, 2}, {64, 32}, {65567, 65535}, {65568, 65536}, {65569, 65537},
	} {
		if got := Masked(make([]byte, c.n)); got != c.want {
			t.Errorf("Masked of %d: %d, want %d", c.n, got, c.want)
		}
	}
	if Masked(nil) != 0 {
		t.Error("nil")
	}
	for _, n := range edges {
		if sealed, _ := Seal(mac.New(some(20)), nil, nil, some(n)); len(sealed) != Size(n) || Masked(sealed) != n {
			t.Errorf("%d bytes are sealed to %d, of which %d are masked", n, len(sealed), Masked(sealed))
		}
	}
}

// P3.2.

func TestNilSealer(t *testing.T) {
	var s *Sealer
	for _, n := range []int{0, 1, 65536, 65537} {
		if nonce, sealed, e := s.Seal(some(3), make([]byte, n)); e != api.ErrState || nonce != nil || sealed != nil {
			t.Errorf("%d bytes: %v %d bytes, %d", n, nonce, len(sealed), e)
		}
	}
	if s.Count() != 0 {
		t.Error(s.Count())
	}
}

func TestSealerOfANilKey(t *testing.T) {
	if New(nil) == nil {
		t.Fatal("no sealer")
	}
	for name, s := range map[string]*Sealer{"New(nil)": New(nil), "a zero one": {}} {
		for _, n := range []int{0, 1, 65536, 65537} {
			if nonce, sealed, e := s.Seal(some(3), make([]byte, n)); e != api.ErrArg || nonce != nil || sealed != nil {
				t.Errorf("%s, %d bytes: %v %d bytes, %d", name, n, nonce, len(sealed), e)
			}
			if s.Count() != 0 {
				t.Errorf("%s, %d bytes: counts %d", name, n, s.Count())
			}
		}
	}
}

// sealNext seals with the sealer, and looks whether the nonce is that of the count.
func sealNext(t *testing.T, s *Sealer, key []byte, count int, bound, b []byte) {
	t.Helper()
	want := binary.BigEndian.AppendUint64(nil, uint64(count))
	if s.Count() != count {
		t.Fatalf("counts %d ahead of the one with the nonce %d", s.Count(), count)
	}
	nonce, sealed, e := s.Seal(bound, b)
	if e != api.OK || !bytes.Equal(nonce, want) || !bytes.Equal(sealed, rightSealed(key, want, bound, b)) {
		t.Fatalf("%d: nonce %v, %d bytes, %d", count, nonce, len(sealed), e)
	}
	if back, e := Open(mac.New(key), nonce, bound, sealed); e != api.OK || !bytes.Equal(back, b) {
		t.Fatalf("%d: opened, %d bytes, %d", count, len(back), e)
	}
	if s.Count() != count+1 {
		t.Fatalf("counts %d behind the one with the nonce %d", s.Count(), count)
	}
}

func TestSealerOneBehindTheOther(t *testing.T) {
	for _, n := range lengths {
		s := New(mac.New(some(n)))
		for i := range 20 {
			sealNext(t, s, some(n), i, some(i%3), some(i*7))
		}
	}
	s := New(&mac.Key{})
	for i := range 600 {
		sealNext(t, s, nil, i, nil, nil)
	}
	s = New(mac.New(some(20)))
	for i, n := range edges {
		sealNext(t, s, some(20), i, some(n%70), some(n))
	}
}

func TestSealerThatAnsweredAnError(t *testing.T) {
	s := New(mac.New(some(20)))
	for i := range 5 {
		for range i + 1 {
			if nonce, sealed, e := s.Seal(some(3), make([]byte, Longest+1+i)); e != api.ErrLong || nonce != nil || sealed != nil {
				t.Fatalf("%v %d bytes, %d", nonce, len(sealed), e)
			}
			if s.Count() != i {
				t.Fatalf("counts %d, want %d", s.Count(), i)
			}
		}
		sealNext(t, s, some(20), i, some(3), some(9))
	}
}

func TestSealersCountOnTheirOwn(t *testing.T) {
	k := mac.New(some(20))
	one, two := New(k), New(k)
	sealNext(t, one, some(20), 0, nil, some(3))
	sealNext(t, one, some(20), 1, nil, some(3))
	sealNext(t, two, some(20), 0, nil, some(4))
	sealNext(t, one, some(20), 2, nil, some(3))
	if _, e := Seal(k, some(8), nil, nil); e != api.OK || one.Count() != 3 || two.Count() != 1 {
		t.Error(one.Count(), two.Count())
	}
}

// No test seals so many: the count is put ahead.
func TestNoncesOfHighCounts(t *testing.T) {
	s := New(mac.New(some(20)))
	for _, n := range []int{255, 256, 65535, 65536, 1<<24 - 1, 1 << 24, 1<<31 - 1, 1 << 31, 1<<32 - 1, 1 << 32, 0x0102030405060708} {
		s.count = n
		sealNext(t, s, some(20), n, some(3), some(5))
	}
}

// P3.3.

// refused fails unless what is opened is refused for its tag.
func refused(t *testing.T, key, nonce, bound, sealed []byte, what string, at int) {
	t.Helper()
	if got, e := Open(mac.New(key), nonce, bound, sealed); e != api.ErrTag || got != nil {
		t.Fatalf("%s %d: %d bytes, %d", what, at, len(got), e)
	}
}

// turnedAt is a copy with the bits of one byte turned.
func turnedAt(b []byte, at int, bits byte) []byte {
	out := bytes.Clone(b)
	out[at] ^= bits
	return out
}

func TestOneByteTurned(t *testing.T) {
	for _, n := range []int{0, 1, 31, 32, 33, 64, 100} {
		for _, m := range []int{1, 8, 32} {
			key, nonce, bound := some(20), some(m), some(m+n)
			sealed, _ := Seal(mac.New(key), nonce, bound, some(n))
			for _, bits := range []byte{1, 2, 16, 128, 255} {
				for at := range sealed {
					refused(t, key, nonce, bound, turnedAt(sealed, at, bits), "sealed", at)
				}
				for at := range nonce {
					refused(t, key, turnedAt(nonce, at, bits), bound, sealed, "nonce", at)
				}
				for at := range bound {
					refused(t, key, nonce, turnedAt(bound, at, bits), sealed, "bound", at)
				}
				for at := range key {
					refused(t, turnedAt(key, at, bits), nonce, bound, sealed, "key", at)
				}
			}
		}
	}
}

func TestOneByteOfTheLongestTurned(t *testing.T) {
	sealed, _ := Seal(mac.New(some(20)), some(8), nil, some(Longest))
	for at := 0; at < len(sealed); at += 4099 {
		refused(t, some(20), some(8), nil, turnedAt(sealed, at, 64), "sealed", at)
	}
	refused(t, some(20), some(8), nil, turnedAt(sealed, Longest-1, 64), "sealed", Longest-1)
}

func TestBytesMoreOrFewer(t *testing.T) {
	key, nonce, bound := some(20), some(8), some(12)
	sealed, _ := Seal(mac.New(key), nonce, bound, some(50))
	for n := 1; n <= 8; n++ {
		more := make([]byte, n)
		refused(t, key, nonce[:8-n], bound, sealed, "nonce shorter by", n)
		refused(t, key, append(bytes.Clone(nonce), more...), bound, sealed, "nonce longer by", n)
		refused(t, key, nonce, bound[:12-n], sealed, "bound shorter by", n)
		refused(t, key, nonce, append(bytes.Clone(bound), more...), sealed, "bound longer by", n)
		refused(t, key, nonce, bound, sealed[:len(sealed)-n], "sealed shorter by", n)
		refused(t, key, nonce, bound, sealed[n:], "sealed shorter at its head by", n)
		refused(t, key, nonce, bound, append(bytes.Clone(sealed), more...), "sealed longer by", n)
		refused(t, key, nonce, bound, append(more, sealed...), "sealed longer at its head by", n)
	}
}

// What stands on one side of a border can't stand on the other: the nonce, what is
// bound and the body are the same bytes one behind the other here.
func TestBordersAreBound(t *testing.T) {
	key := some(20)
	sealed, _ := Seal(mac.New(key), []byte("abcd"), []byte("efgh"), some(9))
	for n := range 9 {
		if n != 4 {
			refused(t, key, []byte("abcdefgh")[:n], []byte("abcdefgh")[n:], sealed, "the nonce's end at", n)
		}
	}
	for n := 1; n <= 9; n++ {
		refused(t, key, []byte("abcd"), append([]byte("efgh"), sealed[:n]...), sealed[n:], "the body begins at", n)
	}
	for n := 1; n <= 4; n++ {
		bound := []byte("efgh")
		refused(t, key, []byte("abcd"), bound[:4-n], append(bytes.Clone(bound[4-n:]), sealed...), "the body begins ahead by", n)
	}
	refused(t, key, []byte("efgh"), []byte("abcd"), sealed, "swapped", 0)
}

// A key that was derived to hide or to bind doesn't open, nor does one tag stand
// for the other.
func TestOtherKeys(t *testing.T) {
	k := mac.New(some(20))
	sealed, _ := Seal(k, some(8), some(3), some(40))
	for i, other := range []*mac.Key{{}, mac.New(some(19)), mac.New(some(21)), k.Derive("hide"), k.Derive("bind"), k.Derive("")} {
		if got, e := Open(other, some(8), some(3), sealed); e != api.ErrTag || got != nil {
			t.Errorf("key %d: %d bytes, %d", i, len(got), e)
		}
	}
}

func TestNoNonceTwice(t *testing.T) {
	s := New(mac.New(some(20)))
	seen, bodies := map[string]int{}, map[string]int{}
	for i := range 3000 {
		if i%7 == 0 {
			s.Seal(nil, make([]byte, Longest+1))
		}
		nonce, sealed, e := s.Seal(nil, some(16))
		if e != api.OK || len(nonce) != 8 {
			t.Fatal(nonce, e)
		}
		if at, there := seen[string(nonce)]; there {
			t.Fatalf("%v is that of %d and of %d", nonce, at, i)
		}
		if at, there := bodies[string(sealed)]; there {
			t.Fatalf("the same bytes are sealed alike at %d and %d", at, i)
		}
		seen[string(nonce)], bodies[string(sealed)] = i, i
	}
}

// roomy is the bytes with others behind them, which mustn't be written to.
func roomy(b []byte) []byte {
	return append(bytes.Clone(b), bytes.Repeat([]byte{77}, 200)...)
}

func TestBytesAreNotChanged(t *testing.T) {
	for _, n := range edges {
		k := mac.New(some(20))
		nonce, bound, b := roomy(some(8)), roomy(some(12)), roomy(some(n))
		right := rightSealed(some(20), some(8), some(12), some(n))
		sealed := roomy(right)
		Seal(k, nonce[:8], bound[:12], b[:n])
		Open(k, nonce[:8], bound[:12], sealed[:n+32])
		Open(k, nonce[:8], bound[:11], sealed[:n+32])
		Stream(k, nonce[:8], n)
		Masked(sealed[:n])
		New(k).Seal(bound[:12], b[:n])
		for what, same := range map[string]bool{
			"the nonce": bytes.Equal(nonce, roomy(some(8))), "what is bound": bytes.Equal(bound, roomy(some(12))),
			"the bytes": bytes.Equal(b, roomy(some(n))), "the sealed bytes": bytes.Equal(sealed, roomy(right)), "the key": bytes.Equal(k.Bytes(), some(20)),
		} {
			if !same {
				t.Errorf("%d bytes: %s changed", n, what)
			}
		}
	}
}

// scribble writes over all that a slice reaches.
func scribble(b []byte) {
	b = b[:cap(b)]
	for i := range b {
		b[i] ^= 0xa5
	}
}

func TestAnswersShareNothing(t *testing.T) {
	for _, n := range edges {
		k, s := mac.New(some(20)), New(mac.New(some(20)))
		nonce, bound, b := some(8), some(12), some(n)
		sealed, _ := Seal(k, nonce, bound, b)
		back, _ := Open(k, nonce, bound, sealed)
		stream, _ := Stream(k, nonce, n)
		own, other, _ := s.Seal(bound, b)
		all := [][]byte{nonce, bound, b, sealed, back, stream, own, other}
		for i, one := range all {
			before := make([][]byte, len(all))
			for j := range all {
				before[j] = bytes.Clone(all[j])
			}
			scribble(one)
			for j := range all {
				if j != i && !bytes.Equal(all[j], before[j]) {
					t.Errorf("%d bytes: %d and %d share their bytes", n, i, j)
				}
			}
		}
		sealNext(t, s, some(20), 1, some(12), some(n))
	}
}

// A sealer keeps nothing that is handed to it, the key included.
func TestSealerKeepsNothing(t *testing.T) {
	bytesOfKey := some(20)
	k := mac.New(bytesOfKey)
	s := New(k)
	bound, b := some(12), some(40)
	sealNext(t, s, some(20), 0, bound, b)
	scribble(bytesOfKey)
	scribble(bound)
	scribble(b)
	*k = *mac.New([]byte("another"))
	sealNext(t, s, some(20), 1, some(12), some(40))
	nonce, sealed, _ := s.Seal(nil, some(5))
	scribble(nonce)
	scribble(sealed)
	sealNext(t, s, some(20), 3, some(12), some(40))
}

// What is left of the last block would tell how the next bytes are hidden.
func TestStreamHandsOutNoMore(t *testing.T) {
	for n := range 100 {
		stream, _ := Stream(mac.New(some(20)), some(8), n)
		if behind := stream[n:cap(stream)]; bytes.ContainsFunc(behind, func(x rune) bool { return x != 0 }) {
			t.Errorf("%d bytes, and %d behind them", n, len(behind))
		}
	}
}

// P1 and P2: every call ends, none panics, and the same calls answer the same.

func story(k *mac.Key, nonce, bound, b []byte, n int) []any {
	s := New(k)
	sealed, e1 := Seal(k, nonce, bound, b)
	back, e2 := Open(k, nonce, bound, sealed)
	forged, e3 := Open(k, nonce, bound, b)
	stream, e4 := Stream(k, nonce, n)
	first, one, e5 := s.Seal(bound, b)
	second, two, e6 := s.Seal(b, nonce)
	return []any{
		string(sealed), e1, string(back), e2, string(forged), e3, string(stream), e4, string(first), string(one), e5,
		string(second), string(two), e6, s.Count(), Size(n), Masked(b),
	}
}

func TestTheSameCallsAnswerTheSame(t *testing.T) {
	for _, k := range []*mac.Key{nil, {}, mac.New(some(20))} {
		for _, n := range []int{0, 8, 32, 33} {
			for _, m := range []int{0, 31, 32, 33, 65536, 65537, 65568, 65569} {
				for _, l := range []int{math.MinInt, -1, 0, 40, 65536, 65537, math.MaxInt} {
					if m > 100 && l != 40 {
						continue
					}
					first := story(k, some(n), some(m/2), some(m), l)
					if !slices.Equal(first, story(k, some(n), some(m/2), some(m), l)) {
						t.Errorf("nonce of %d, %d bytes, %d", n, m, l)
					}
				}
			}
		}
	}
	if !slices.Equal(story(mac.New(nil), nil, nil, nil, 9), story(&mac.Key{}, []byte{}, []byte{}, []byte{}, 9)) {
		t.Error("nil and no bytes aren't the same")
	}
}

func FuzzSeal(f *testing.F) {
	for _, n := range []int{0, 1, 8, 31, 32, 33} {
		f.Add(some(n), some(n), some(2*n), some(3*n), n*9)
	}
	f.Fuzz(func(t *testing.T, key, nonce, bound, b []byte, at int) {
		k := mac.New(key)
		sealed, e := Seal(k, nonce, bound, b)
		if len(nonce) > 32 || len(b) > Longest {
			if e == api.OK || sealed != nil {
				t.Error("sealed")
			}
			return
		}
		if e != api.OK || !bytes.Equal(sealed, rightSealed(key, nonce, bound, b)) {
			t.Error("not sealed right")
		}
		if back, e := Open(k, nonce, bound, sealed); e != api.OK || !bytes.Equal(back, b) {
			t.Error("not opened")
		}
		forged := turnedAt(sealed, int(uint(at)%uint(len(sealed))), 1<<(uint(at)%8))
		if back, e := Open(k, nonce, bound, forged); e != api.ErrTag || back != nil {
			t.Error("opened")
		}
		Open(k, nonce, bound, b)
		Stream(k, nonce, at)
	})
}

func BenchmarkSeal(b *testing.B) {
	k, text := mac.New(some(32)), some(64)
	for b.Loop() {
		Seal(k, some(8), nil, text)
	}
}
