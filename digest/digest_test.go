package digest

import (
	"bytes"
	"crypto/sha256"
	"encoding/binary"
	"encoding/hex"
	"math"
	"math/big"
	"slices"
	"strings"
	"testing"

	"vigil/api"
)

// The lengths about the ends of a block, and of the padding behind it.
var edges = []int{0, 1, 54, 55, 56, 57, 62, 63, 64, 65, 118, 119, 120, 121, 127, 128, 129, 183, 184, 191, 192, 193}

// some is so many bytes, no two neighbours of which are the same.
func some(n int) []byte {
	b := make([]byte, n)
	for i := range b {
		b[i] = byte(i*37 + i/64*11 + 5)
	}
	return b
}

// cuts is the bytes cut in many ways, empty and nil parts among them.
func cuts(b []byte) [][][]byte {
	out := [][][]byte{{b}, {nil, b, {}}, {}}
	for i := range b {
		out[2] = append(out[2], b[i:i+1])
	}
	for i := range len(b) + 1 {
		out = append(out, [][]byte{b[:i], b[i:]}, [][]byte{b[:i], {}, nil, b[i:]})
	}
	for step := 2; step < 70; step++ {
		out = append(out, slices.Collect(slices.Chunk(b, step)))
	}
	return out
}

// P1.1: Sum.

func TestSumOfKnownTexts(t *testing.T) {
	for _, c := range []struct{ text, want string }{
		{"", "e3b0c44298fc1c149afbf4c8996fb92427ae41e4649b934ca495991b7852b855"},
		{"abc", "ba7816bf8f01cfea414140de5dae2223b00361a396177a9cb410ff61f20015ad"},
		{"abcdbcdecdefdefgefghfghighijhijkijkljklmklmnlmnomnopnopq", "248d6a61d20638b8e5c026930c3e6039a33ce45964ff2167f6ecedd419db06c1"},
		{"abcdefghbcdefghicdefghijdefghijkefghijklfghijklmghijklmnhijklmnoijklmnopjklmnopqklmnopqrlmnopqrsmnopqrstnopqrstu", "cf5b16a778af8380036ce59e7b0492370b249b11e8f07a51afac45037afee9d1"},
		{strings.Repeat("a", 1000000), "cdc76e5c9914fb9281a1c7e284d73e67f1809a48a497200e046d39ccc7112cd0"},
	} {
		sum := Sum([]byte(c.text))
		if got := hex.EncodeToString(sum[:]); got != c.want {
			t.Errorf("%d bytes: %s, want %s", len(c.text), got, c.want)
		}
	}
}

func TestSumOfAllShortLengths(t *testing.T) {
	for n := range 520 {
		b := some(n)
		if Sum(b) != sha256.Sum256(b) {
			t.Errorf("length %d", n)
		}
		z := make([]byte, n)
		if Sum(z) != sha256.Sum256(z) {
			t.Errorf("length %d of zeros", n)
		}
	}
}

func TestSumOfSeveralParts(t *testing.T) {
	if Sum() != sha256.Sum256(nil) || Sum(nil) != sha256.Sum256(nil) || Sum(nil, []byte{}, nil) != sha256.Sum256(nil) {
		t.Error("no bytes")
	}
	if Sum([]byte("a"), []byte("b"), []byte("c")) != sha256.Sum256([]byte("abc")) {
		t.Error("a, b, c")
	}
	if Sum([]byte("b"), []byte("a")) != sha256.Sum256([]byte("ba")) {
		t.Error("the order of parts")
	}
	for _, m := range edges {
		for _, n := range edges {
			b := some(m + n)
			if Sum(b[:m], b[m:]) != sha256.Sum256(b) {
				t.Errorf("%d and %d", m, n)
			}
		}
	}
}

// How many bits there were needs more than four bytes from 2^29 bytes on: too
// many to digest in a test, so that the padding alone is looked at.
func TestPaddingOfManyBytes(t *testing.T) {
	for _, told := range []uint64{0, 55, 56, 1<<29 - 1, 1 << 29, 1<<29 + 55, 1<<29 + 56, 1<<31 - 1} {
		pad := padding(told)
		end := len(pad) - 8
		if pad[0] != 128 || bytes.ContainsFunc(pad[1:end], func(x rune) bool { return x != 0 }) {
			t.Errorf("%d: %v", told, pad)
		}
		if len(pad) > 72 || (told+uint64(len(pad)))%64 != 0 {
			t.Errorf("%d: padded by %d", told, len(pad))
		}
		if got := binary.BigEndian.Uint64(pad[end:]); got != 8*told {
			t.Errorf("%d: %d bits", told, got)
		}
	}
}

// The table and the eight words, by their own rule.
func TestWordsOfRoots(t *testing.T) {
	var primes []int64
	for n := int64(2); len(primes) < len(table); n++ {
		if big.NewInt(n).ProbablyPrime(0) {
			primes = append(primes, n)
		}
	}
	for i, p := range primes {
		if want := rootWord(p, 3); table[i] != want {
			t.Errorf("table %d: %08x, want %08x", i, table[i], want)
		}
	}
	for i, w := range firstWords() {
		if want := rootWord(primes[i], 2); w != want {
			t.Errorf("word %d: %08x, want %08x", i, w, want)
		}
	}
}

// rootWord is the first 32 bits of the fraction of a root of p.
func rootWord(p, root int64) uint32 {
	lifted := new(big.Int).Lsh(big.NewInt(p), uint(32*root))
	low, high := big.NewInt(0), new(big.Int).Lsh(big.NewInt(p), 32)
	for new(big.Int).Sub(high, low).Cmp(big.NewInt(1)) > 0 {
		mid := new(big.Int).Rsh(new(big.Int).Add(low, high), 1)
		if new(big.Int).Exp(mid, big.NewInt(root), nil).Cmp(lifted) > 0 {
			high = mid
		} else {
			low = mid
		}
	}
	return uint32(low.Uint64() & math.MaxUint32)
}

// P1.1: a running digest.

func TestRunningAtEdges(t *testing.T) {
	for _, m := range edges {
		for _, n := range edges {
			b := some(m + n)
			var r Running
			if r.Add(b[:m]) != &r {
				t.Fatal("Add answers another one")
			}
			if r.Sum() != sha256.Sum256(b[:m]) || r.Len() != m {
				t.Errorf("%d: len %d", m, r.Len())
			}
			r.Add(b[m:])
			if r.Sum() != sha256.Sum256(b) || r.Len() != m+n {
				t.Errorf("%d and, behind Sum, %d: len %d", m, n, r.Len())
			}
			if r.Sum() != sha256.Sum256(b) || r.Len() != m+n {
				t.Errorf("%d and %d, asked twice", m, n)
			}
		}
	}
}

func TestRunningByteByByte(t *testing.T) {
	var r Running
	b := some(400)
	for i := range b {
		if r.Sum() != sha256.Sum256(b[:i]) || r.Len() != i {
			t.Fatalf("length %d", i)
		}
		r.Add(b[i : i+1])
	}
}

func TestAddOfNothing(t *testing.T) {
	var r Running
	r.Add().Add(nil).Add([]byte{}, nil)
	if r.Len() != 0 || r.Sum() != sha256.Sum256(nil) {
		t.Error("a zero Running that is told nothing")
	}
	r.Add(some(70)).Add().Add(nil).Add([]byte{}, nil)
	if r.Len() != 70 || r.Sum() != sha256.Sum256(some(70)) {
		t.Error("one of 70 bytes that is told nothing")
	}
}

func TestCopyIsItsOwn(t *testing.T) {
	for _, m := range edges {
		for _, n := range edges {
			b, other := some(m+n), append(some(m), bytes.Repeat([]byte{200}, n+1)...)
			var r Running
			r.Add(b[:m])
			c := r.Copy()
			if c == &r || c.Sum() != sha256.Sum256(b[:m]) || c.Len() != m {
				t.Fatalf("copy at %d", m)
			}
			c.Add(other[m:])
			if r.Sum() != sha256.Sum256(b[:m]) || r.Len() != m {
				t.Errorf("%d: what the copy was told of %d changes the first", m, n)
			}
			r.Add(b[m:])
			if c.Sum() != sha256.Sum256(other) || c.Len() != len(other) {
				t.Errorf("%d: what the first was told of %d changes the copy", m, n)
			}
			if r.Sum() != sha256.Sum256(b) || r.Len() != m+n {
				t.Errorf("%d and %d", m, n)
			}
		}
	}
}

// P1.2.

func TestHexAndBytesThereAndBack(t *testing.T) {
	all := make([]byte, 256)
	for i := range all {
		all[i] = byte(i)
		one := Hex([]byte{byte(i)})
		if one != hex.EncodeToString([]byte{byte(i)}) {
			t.Errorf("%d: %q", i, one)
		}
		if b, e := Bytes(one); e != api.OK || !bytes.Equal(b, []byte{byte(i)}) {
			t.Errorf("%q: %v %d", one, b, e)
		}
	}
	for n := range len(all) + 1 {
		s := Hex(all[:n])
		if s != hex.EncodeToString(all[:n]) {
			t.Errorf("Hex of %d", n)
		}
		if b, e := Bytes(s); e != api.OK || !bytes.Equal(b, all[:n]) || Hex(b) != s {
			t.Errorf("Bytes of %d: %d", n, e)
		}
	}
}

func TestHexAndBytesOfNothing(t *testing.T) {
	if Hex(nil) != "" || Hex([]byte{}) != "" {
		t.Error("Hex")
	}
	if b, e := Bytes(""); len(b) != 0 || e != api.OK {
		t.Error(b, e)
	}
}

func TestBytesRefusesAnOddNumber(t *testing.T) {
	for n := 1; n < 100; n += 2 {
		if b, e := Bytes(strings.Repeat("0", n)); b != nil || e != api.ErrForm {
			t.Errorf("%d signs: %v %d", n, b, e)
		}
	}
}

func TestBytesRefusesOtherSigns(t *testing.T) {
	for x := range 256 {
		if strings.IndexByte("0123456789abcdef", byte(x)) >= 0 {
			continue
		}
		for at := range 6 {
			s := []byte("09afc3")
			s[at] = byte(x)
			if b, e := Bytes(string(s)); b != nil || e != api.ErrForm {
				t.Errorf("%q: %v %d", s, b, e)
			}
		}
	}
	for _, s := range []string{"FF", "0x", "0x00", " 00", "00 ", "é", "-1", "+1", "0_00", "ag", "/0", "0:", "`a", "a@"} {
		if b, e := Bytes(s); b != nil || e != api.ErrForm {
			t.Errorf("%q: %v %d", s, b, e)
		}
	}
}

func TestErrFormIs3(t *testing.T) {
	if _, e := Bytes("0"); e != 3 {
		t.Error(e)
	}
}

// P1.3.

func TestCutsDontMatter(t *testing.T) {
	for _, n := range edges {
		b := some(n)
		want := sha256.Sum256(b)
		for i, parts := range cuts(b) {
			if Sum(parts...) != want {
				t.Errorf("Sum of %d, cut %d", n, i)
			}
			var at, by Running
			at.Add(parts...)
			for _, p := range parts {
				by.Add(p)
			}
			if at.Sum() != want || by.Sum() != want || at.Len() != n || by.Len() != n {
				t.Errorf("Running of %d, cut %d", n, i)
			}
		}
	}
}

func TestNilRunning(t *testing.T) {
	var r *Running
	if r.Add() != nil || r.Add(nil) != nil || r.Add([]byte("abc"), []byte("d")) != nil {
		t.Error("Add")
	}
	if r.Sum() != sha256.Sum256(nil) || r.Add([]byte("abc")).Sum() != sha256.Sum256(nil) {
		t.Error("Sum")
	}
	if r.Len() != 0 || r.Add([]byte("abc")).Len() != 0 {
		t.Error("Len")
	}
	if r.Copy() != nil {
		t.Error("Copy")
	}
}

func TestZeroRunning(t *testing.T) {
	var r Running
	if r.Sum() != sha256.Sum256(nil) || r.Len() != 0 {
		t.Error("told nothing")
	}
	c := r.Copy()
	if c == nil || c == &r || c.Sum() != sha256.Sum256(nil) || c.Len() != 0 {
		t.Fatal("its copy")
	}
	if c.Add([]byte("abc")).Sum() != sha256.Sum256([]byte("abc")) || r.Len() != 0 {
		t.Error("its copy, told more")
	}
	if new(Running).Add([]byte("abc")).Sum() != sha256.Sum256([]byte("abc")) || (&Running{}).Add(some(64)).Len() != 64 {
		t.Error("told more")
	}
}

func TestBytesAreNotChanged(t *testing.T) {
	for _, n := range edges {
		room := append(some(n), bytes.Repeat([]byte{77}, 200)...)
		before := bytes.Clone(room)
		parts := [][]byte{room[:n/2], room[n/2 : n]}
		var r Running
		r.Add(parts...).Sum()
		Sum(parts...)
		Hex(parts[0])
		if !bytes.Equal(room, before) {
			t.Errorf("length %d: bytes are changed", n)
		}
		if len(parts) != 2 || len(parts[0]) != n/2 || len(parts[1]) != n-n/2 {
			t.Errorf("length %d: parts are changed", n)
		}
	}
}

func TestBytesAreNotKept(t *testing.T) {
	for _, n := range edges {
		b := some(n)
		want := sha256.Sum256(b)
		var r Running
		r.Add(b)
		c := r.Copy()
		clear(b)
		if r.Sum() != want || c.Sum() != want {
			t.Errorf("length %d: what was handed in is kept", n)
		}
	}
}

func TestAnswersAreNewMemory(t *testing.T) {
	first, _ := Bytes("0102")
	clear(first)
	if again, _ := Bytes("0102"); !bytes.Equal(again, []byte{1, 2}) {
		t.Error(again)
	}
	b := []byte{1, 2}
	s := Hex(b)
	clear(b)
	if s != "0102" {
		t.Error(s)
	}
	var r Running
	sum := r.Add(some(3)).Sum()
	clear(sum[:])
	if r.Sum() != sha256.Sum256(some(3)) {
		t.Error("a digest that was answered")
	}
}

// P1 and P2: every call ends, none panics, and the same calls answer the same.

func story(r *Running, b []byte, s string) []any {
	back, e := Bytes(s)
	return []any{
		Sum(), Sum(nil), Sum(b), Sum(b, nil, b), Hex(b), string(back), e,
		r.Len(), r.Sum(), r.Add(b).Len(), r.Sum(), r.Copy().Add(b, b).Sum(), r.Copy().Len(), r.Sum(),
	}
}

func TestTheSameCallsAnswerTheSame(t *testing.T) {
	for _, n := range edges {
		for _, s := range []string{"", "0", "zz", "00ff", string(some(n)), Hex(some(n))} {
			for _, b := range [][]byte{nil, some(n)} {
				if !slices.Equal(story(nil, b, s), story(nil, b, s)) {
					t.Errorf("a nil Running, %d bytes, %q", n, s)
				}
				if !slices.Equal(story(new(Running), b, s), story(new(Running), b, s)) {
					t.Errorf("%d bytes, %q", n, s)
				}
			}
		}
	}
}

func FuzzDigest(f *testing.F) {
	for _, n := range edges {
		f.Add(some(n), n/3, Hex(some(n)))
	}
	f.Fuzz(func(t *testing.T, b []byte, at int, s string) {
		at = int(uint(at) % uint(len(b)+1))
		var r Running
		r.Add(b[:at])
		c := r.Copy()
		r.Sum()
		if r.Add(b[at:]).Sum() != sha256.Sum256(b) || Sum(b[:at], b[at:]) != sha256.Sum256(b) || c.Sum() != sha256.Sum256(b[:at]) {
			t.Error("digest")
		}
		want, err := hex.DecodeString(s)
		got, e := Bytes(s)
		right := err == nil && s == strings.ToLower(s)
		if (e == api.OK) != right || right && !bytes.Equal(got, want) || !right && (got != nil || e != api.ErrForm) {
			t.Errorf("%q: %v %d", s, got, e)
		}
	})
}

func BenchmarkSum(b *testing.B) {
	text := some(1 << 16)
	b.SetBytes(int64(len(text)))
	for b.Loop() {
		Sum(text)
	}
}
