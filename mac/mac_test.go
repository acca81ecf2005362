package mac

import (
	"bytes"
	"crypto/hmac"
	"crypto/sha256"
	"encoding/binary"
	"encoding/hex"
	"go/ast"
	"go/parser"
	"go/token"
	"slices"
	"strings"
	"testing"
)

// The lengths of keys about a block's end.
var edges = []int{0, 1, 31, 32, 33, 63, 64, 65, 127, 128, 129, 200}

// some is so many bytes, no two neighbours of which are the same.
func some(n int) []byte {
	b := make([]byte, n)
	for i := range b {
		b[i] = byte(i*37 + i/64*11 + 5)
	}
	return b
}

// lists is no part, one part, empty parts, and several parts.
func lists() [][][]byte {
	return [][][]byte{
		nil, {}, {nil}, {{}}, {nil, {}, nil}, {[]byte("a")}, {some(55)}, {some(64)}, {some(65)}, {some(300)},
		{[]byte("ab"), nil}, {nil, []byte("ab")}, {[]byte("a"), []byte("b")}, {[]byte("a"), {}, []byte("b")},
		{some(64), some(64)}, {some(63), some(1), nil, some(70), []byte("c")}, {{0}, {0, 0}, {0, 0, 0}},
	}
}

// labels is some labels, the longest of which is longer than a block.
func labels() []string {
	return []string{"", "a", "print", "token", "\x00", "\xff\xfe", "ä", strings.Repeat("l", 300)}
}

// rightTag is the tag, by the library's own means.
func rightTag(key []byte, parts ...[]byte) [32]byte {
	h := hmac.New(sha256.New, key)
	for _, p := range parts {
		h.Write(p)
	}
	return [32]byte(h.Sum(nil))
}

// rightKey is the derived key, by the library's own means.
func rightKey(key []byte, label string, parts ...[]byte) [32]byte {
	var text []byte
	for _, p := range append([][]byte{[]byte(label)}, parts...) {
		text = binary.BigEndian.AppendUint32(text, uint32(len(p)))
		text = append(text, p...)
	}
	return rightTag(key, text)
}

func unhex(t *testing.T, s string) []byte {
	b, err := hex.DecodeString(s)
	if err != nil {
		t.Fatal(err)
	}
	return b
}

// P2.1: Tag.

// RFC 4231's cases, but for the fifth, whose tag is cut.
func TestTagOfKnownTexts(t *testing.T) {
	long := bytes.Repeat([]byte{0xaa}, 131)
	counted := make([]byte, 25)
	for i := range counted {
		counted[i] = byte(i + 1)
	}
	for i, c := range []struct {
		key, text []byte
		want      string
	}{
		{bytes.Repeat([]byte{0x0b}, 20), []byte("Hi There"), "b0344c61d8db38535ca8afceaf0bf12b881dc200c9833da726e9376c2e32cff7"},
		{[]byte("Jefe"), []byte("what do ya want for nothing?"), "5bdcc146bf60754e6a042426089575c75a003f089d2739839dec58b964ec3843"},
		{bytes.Repeat([]byte{0xaa}, 20), bytes.Repeat([]byte{0xdd}, 50), "773ea91e36800e46854db8ebd09181a72959098b3ef8c122d9635514ced565fe"},
		{counted, bytes.Repeat([]byte{0xcd}, 50), "82558a389a443c0ea4cc819899f2083a85f0faa3e578f8077a2e3ff46729665b"},
		{long, []byte("Test Using Larger Than Block-Size Key - Hash Key First"), "60e431591ee0b67f0d8a26aacbf5b77f8e0bc6213728c5140546040f0ee37f54"},
		{long, []byte("This is a test using a larger than block-size key and a larger than block-size data. The key needs to be hashed before being used by the HMAC algorithm."), "9b09ffa71b942fcb27635fbcd5b0e944bfdc63644f0713938a7f51535c3a35e2"},
	} {
		tag := Tag(c.key, c.text)
		if got := hex.EncodeToString(tag[:]); got != c.want {
			t.Errorf("case %d: %s, want %s", i, got, c.want)
		}
	}
}

func TestTagAtEdges(t *testing.T) {
	for _, n := range edges {
		for i, parts := range lists() {
			if Tag(some(n), parts...) != rightTag(some(n), parts...) {
				t.Errorf("key of %d, parts %d", n, i)
			}
		}
	}
	for n := range 200 {
		if Tag(some(n), some(200-n)) != rightTag(some(n), some(200-n)) {
			t.Errorf("key of %d, %d bytes", n, 200-n)
		}
	}
	if Tag(nil) != rightTag(nil) || Tag([]byte{}) != rightTag(nil) {
		t.Error("no key and no part")
	}
}

// A key is as it is filled, and one of more than a block as its digest: of 64
// bytes it is itself.
func TestWhichKeysCountAsOthers(t *testing.T) {
	short := []byte("short")
	full := append(bytes.Clone(short), make([]byte, 59)...)
	if Tag(short, some(9)) != Tag(full, some(9)) {
		t.Error("filled up to 64")
	}
	if Tag(short, some(9)) == Tag(append(full, 0), some(9)) {
		t.Error("filled beyond 64")
	}
	for _, n := range []int{63, 64, 65, 128} {
		sum := sha256.Sum256(some(n))
		if same := Tag(some(n), some(9)) == Tag(sum[:], some(9)); same != (n > 64) {
			t.Errorf("key of %d: counts as its digest: %t", n, same)
		}
	}
}

func TestCutsDontMatterInTag(t *testing.T) {
	b := some(130)
	for _, n := range edges {
		want := rightTag(some(n), b)
		for i := range len(b) + 1 {
			if Tag(some(n), b[:i], b[i:]) != want || Tag(some(n), nil, b[:i], []byte{}, b[i:]) != want {
				t.Errorf("key of %d, cut at %d", n, i)
			}
		}
		for step := 1; step < 70; step++ {
			if Tag(some(n), slices.Collect(slices.Chunk(b, step))...) != want {
				t.Errorf("key of %d, parts of %d", n, step)
			}
		}
	}
}

// P2.1: Derive.

func TestDeriveOfKnownTexts(t *testing.T) {
	count := make([]byte, 256)
	for i := range count {
		count[i] = byte(i)
	}
	for i, c := range []struct {
		key   []byte
		label string
		parts [][]byte
		want  string
	}{
		{nil, "", nil, "aa7855e13839dd767cd5da7c1ff5036540c9264b7a803029315e55375287b4af"},
		{[]byte("Jefe"), "", nil, "f479b3035733fbc69f0a9688d727bb5031e7ce0e9a928bd56a4f949c0741cd34"},
		{[]byte("Jefe"), "print", nil, "2fc58c4a609bacfb5b0fa7e6589c09f653af27bc416fec037c407b1143374905"},
		{[]byte("master"), "token", [][]byte{[]byte("ab"), nil}, "96354bf71fef516c1358ca8b62ae5f49cae49f16245552e2b5b271592b526ae8"},
		{[]byte("master"), "token", [][]byte{[]byte("a"), []byte("b")}, "f5b70c202aaf09718b71ab1c79bc9135c610e2e5faed9135d9a63d46106fb772"},
		{count[:64], "x", [][]byte{count}, "738fc4521c084d50b4444505092999ec8e3dccd83e789cbdb4e8c2d99e471981"},
		{count[:65], "x", [][]byte{nil, nil, nil}, "6384ea000fad7595cd9419722397407bbffdba39a301e8afb7504e6d1c32bc00"},
	} {
		key := Derive(c.key, c.label, c.parts...)
		if got := hex.EncodeToString(key[:]); got != c.want {
			t.Errorf("case %d: %s, want %s", i, got, c.want)
		}
	}
}

func TestDeriveAtEdges(t *testing.T) {
	for _, n := range edges {
		for i, parts := range lists() {
			for _, label := range labels() {
				if Derive(some(n), label, parts...) != rightKey(some(n), label, parts...) {
					t.Errorf("key of %d, label %q, parts %d", n, label, i)
				}
			}
		}
	}
}

// Each of a length's four bytes counts.
func TestDeriveOfLongParts(t *testing.T) {
	for _, n := range []int{255, 256, 257, 1<<16 - 1, 1 << 16, 1<<24 + 1<<16 + 1<<8 + 1} {
		b := make([]byte, n)
		if Derive(some(3), "long", b) != rightKey(some(3), "long", b) {
			t.Errorf("part of %d", n)
		}
		if n < 1<<20 && Derive(some(3), string(b), some(2)) != rightKey(some(3), string(b), some(2)) {
			t.Errorf("label of %d", n)
		}
	}
}

// P2.1: Equal.

// cancelled is bytes whose sum, or whose bits turned by one another, are 0.
func cancelled() [][]byte {
	return [][]byte{{5, 5}, {1, 255}, {128, 128}, {7, 0, 7}, {1, 2, 3}, {64, 64, 128}, {255, 1, 0}, {1, 1, 1, 1}}
}

func TestEqualOfTheSameLength(t *testing.T) {
	for _, n := range edges {
		a, b := some(n), some(n)
		if !Equal(a, b) || !Equal(a, a) {
			t.Errorf("%d bytes: not the same", n)
		}
		for at := range n {
			for bit := range 8 {
				b[at] ^= 1 << bit
				if Equal(a, b) || Equal(b, a) {
					t.Errorf("%d bytes: the same, but for bit %d at %d", n, bit, at)
				}
				b[at] ^= 1 << bit
			}
		}
	}
	for _, b := range cancelled() {
		if zeros := make([]byte, len(b)); Equal(b, zeros) || Equal(zeros, b) {
			t.Errorf("%v and zeros: the same", b)
		}
	}
	if Equal([]byte{1, 2}, []byte{2, 1}) || Equal([]byte{1, 255}, []byte{255, 1}) {
		t.Error("bytes in another order: the same")
	}
}

func TestEqualOfUnlikeLengths(t *testing.T) {
	for _, n := range edges {
		for _, m := range edges {
			if Equal(some(n), some(m)) != (n == m) || Equal(make([]byte, n), make([]byte, m)) != (n == m) {
				t.Errorf("%d and %d bytes", n, m)
			}
		}
	}
	if !Equal(nil, nil) || !Equal(nil, []byte{}) || !Equal([]byte{}, nil) {
		t.Error("no bytes")
	}
	if Equal(nil, []byte{0}) || Equal([]byte{0}, nil) || Equal([]byte{}, []byte{0}) {
		t.Error("no bytes, and one that is 0")
	}
}

// bodies is the functions' bodies that the package's file declares, by name.
func bodies(t *testing.T, file string) map[string]*ast.BlockStmt {
	parsed, err := parser.ParseFile(token.NewFileSet(), file, nil, 0)
	if err != nil {
		t.Fatal(err)
	}
	out := map[string]*ast.BlockStmt{}
	for _, d := range parsed.Decls {
		if f, ok := d.(*ast.FuncDecl); ok && f.Recv == nil {
			out[f.Name.Name] = f.Body
		}
	}
	return out
}

// No answer tells where Equal leaves off, and how long it takes is told by a
// clock alone: so its text is looked at.
func TestEqualGoesThroughAll(t *testing.T) {
	loops := 0
	ast.Inspect(bodies(t, "mac.go")["Equal"], func(n ast.Node) bool {
		switch x := n.(type) {
		case *ast.RangeStmt:
			loops++
			ast.Inspect(x.Body, func(n ast.Node) bool {
				switch n.(type) {
				case *ast.ReturnStmt, *ast.BranchStmt, *ast.IfStmt, *ast.SwitchStmt:
					t.Error("the loop may leave off")
				case *ast.BinaryExpr:
					if op := n.(*ast.BinaryExpr).Op; op == token.LAND || op == token.LOR {
						t.Error("the loop may leave a byte out")
					}
				}
				return true
			})
		case *ast.CallExpr:
			if name, ok := x.Fun.(*ast.Ident); !ok || name.Name != "len" {
				t.Error("another function holds the bytes against each other")
			}
		}
		return true
	})
	if loops != 1 {
		t.Errorf("%d loops", loops)
	}
}

func TestCheckAsksEqual(t *testing.T) {
	asks := false
	ast.Inspect(bodies(t, "mac.go")["Check"], func(n ast.Node) bool {
		switch x := n.(type) {
		case *ast.CallExpr:
			name, ok := x.Fun.(*ast.Ident)
			asks = asks || ok && name.Name == "Equal"
		case *ast.BinaryExpr:
			t.Error("tags are held against each other beside Equal")
		}
		return true
	})
	if !asks {
		t.Error("Check doesn't ask Equal")
	}
}

// P2.1: Check.

func TestCheckOfTheRightTag(t *testing.T) {
	for _, n := range edges {
		for i, parts := range lists() {
			tag := rightTag(some(n), parts...)
			if !Check(some(n), tag[:], parts...) {
				t.Errorf("key of %d, parts %d", n, i)
			}
		}
	}
	tag := unhex(t, "5bdcc146bf60754e6a042426089575c75a003f089d2739839dec58b964ec3843")
	if !Check([]byte("Jefe"), tag, []byte("what do ya "), nil, []byte("want for nothing?")) {
		t.Error("the chapter's example, in parts")
	}
}

func TestCheckOfAWrongTag(t *testing.T) {
	for _, n := range []int{0, 1, 63, 64, 65, 128} {
		for i, parts := range lists() {
			tag := rightTag(some(n), parts...)
			for bit := range 8 * len(tag) {
				tag[bit/8] ^= 1 << (bit % 8)
				if Check(some(n), tag[:], parts...) {
					t.Fatalf("key of %d, parts %d: bit %d turned", n, i, bit)
				}
				tag[bit/8] ^= 1 << (bit % 8)
			}
		}
	}
	zeros := make([]byte, 32)
	if Check(nil, zeros) || Check(some(20), zeros, some(3)) {
		t.Error("zeros")
	}
}

func TestCheckOfAWrongLength(t *testing.T) {
	key, text := some(20), some(50)
	tag := rightTag(key, text)
	for n := range 32 {
		if Check(key, tag[:n], text) || Check(key, tag[32-n:], text) {
			t.Errorf("%d bytes of the tag", n)
		}
	}
	for n := 1; n < 40; n++ {
		if Check(key, append(tag[:32:32], make([]byte, n)...), text) || Check(key, append(make([]byte, n), tag[:]...), text) {
			t.Errorf("the tag and %d bytes", n)
		}
	}
	if Check(key, nil, text) || Check(nil, nil) || Check(key, append(tag[:32:32], tag[:]...), text) {
		t.Error("no tag, or two")
	}
}

func TestCheckOfAnotherTextOrKey(t *testing.T) {
	tag := rightTag(some(20), some(50))
	for _, c := range []struct {
		key, text []byte
	}{{some(19), some(50)}, {some(21), some(50)}, {nil, some(50)}, {some(20), some(49)}, {some(20), some(51)}, {some(20), nil}} {
		if Check(c.key, tag[:], c.text) {
			t.Errorf("key of %d, %d bytes", len(c.key), len(c.text))
		}
	}
	if Check(some(20), tag[:], []byte("a"), some(50)) || Check(some(20), tag[:], some(50)[25:], some(50)[:25]) {
		t.Error("other parts")
	}
}

// P2.2.

func TestKeyOfNew(t *testing.T) {
	for _, n := range edges {
		k := New(some(n))
		if k == nil || !bytes.Equal(k.Bytes(), some(n)) {
			t.Fatalf("key of %d", n)
		}
		for i, parts := range lists() {
			if k.Tag(parts...) != rightTag(some(n), parts...) {
				t.Errorf("Tag of a key of %d, parts %d", n, i)
			}
			for _, label := range labels() {
				d, want := k.Derive(label, parts...), rightKey(some(n), label, parts...)
				if d == nil || !bytes.Equal(d.Bytes(), want[:]) || d.Tag(some(3)) != rightTag(want[:], some(3)) {
					t.Errorf("Derive of a key of %d, label %q, parts %d", n, label, i)
				}
			}
		}
		if !bytes.Equal(k.Bytes(), some(n)) {
			t.Errorf("key of %d is changed", n)
		}
	}
}

func TestDeriveOfADerivedKey(t *testing.T) {
	first := rightKey([]byte("master"), "token", some(9))
	second := rightKey(first[:], "sender", []byte{0, 7})
	if k := New([]byte("master")).Derive("token", some(9)).Derive("sender", []byte{0, 7}); !bytes.Equal(k.Bytes(), second[:]) {
		t.Error(k.Bytes())
	}
}

func TestPrint(t *testing.T) {
	if got, want := New([]byte("Jefe")).Print(), [8]byte(unhex(t, "2fc58c4a609bacfb")); got != want {
		t.Errorf("%x, want %x", got, want)
	}
	for _, n := range edges {
		k, want := New(some(n)), rightKey(some(n), "print")
		if k.Print() != [8]byte(want[:8]) || k.Print() != [8]byte(k.Derive("print").Bytes()[:8]) {
			t.Errorf("key of %d", n)
		}
	}
}

func TestZeroOfKeysThatAreNone(t *testing.T) {
	for name, k := range map[string]*Key{"nil": nil, "New(nil)": New(nil), "no bytes": New([]byte{}), "a zero Key": {}} {
		if !Zero(k) {
			t.Errorf("%s: false", name)
		}
	}
	for _, n := range edges {
		if !Zero(New(make([]byte, n))) {
			t.Errorf("%d bytes 0: false", n)
		}
	}
}

func TestZeroOfKeysThatAreSome(t *testing.T) {
	for _, n := range edges {
		for at := range n {
			for _, x := range []byte{1, 2, 128, 255} {
				b := make([]byte, n)
				b[at] = x
				if Zero(New(b)) {
					t.Errorf("%d bytes 0, but for %d at %d: true", n, x, at)
				}
			}
		}
	}
	for _, b := range cancelled() {
		if Zero(New(b)) {
			t.Errorf("%v: true", b)
		}
	}
	if Zero(New([]byte("0"))) || Zero(New(some(64))) || Zero(New(nil).Derive("")) {
		t.Error("true")
	}
}

func TestZeroKey(t *testing.T) {
	var k Key
	if k.Tag(some(3)) != rightTag(nil, some(3)) || len(k.Bytes()) != 0 {
		t.Error("Tag, or Bytes")
	}
	want, print := rightKey(nil, "a", some(3)), rightKey(nil, "print")
	if !bytes.Equal(k.Derive("a", some(3)).Bytes(), want[:]) || k.Print() != [8]byte(print[:8]) {
		t.Error("Derive, or Print")
	}
}

// P2.3.

// allCuts is all ways to cut the bytes into parts that aren't empty.
func allCuts(b []byte) [][][]byte {
	if len(b) == 0 {
		return [][][]byte{nil}
	}
	var out [][][]byte
	for n := 1; n <= len(b); n++ {
		for _, rest := range allCuts(b[n:]) {
			out = append(out, append([][]byte{b[:n]}, rest...))
		}
	}
	return out
}

// withEmpties is the lists, and those with an empty part put in anywhere.
func withEmpties(lists [][][]byte) [][][]byte {
	out := slices.Clone(lists)
	for _, l := range lists {
		for at := range len(l) + 1 {
			more := slices.Insert(slices.Clone(l), at, []byte{})
			if !slices.ContainsFunc(out, func(x [][]byte) bool { return slices.EqualFunc(x, more, bytes.Equal) }) {
				out = append(out, more)
			}
		}
	}
	return out
}

func TestUnlikeListsOfTheSameBytes(t *testing.T) {
	text := "\x00\x00\x00\x01abc"
	for _, key := range [][]byte{nil, some(20), some(65)} {
		derived := map[[32]byte]string{}
		for at := range len(text) + 1 {
			for _, parts := range withEmpties(withEmpties(allCuts([]byte(text[at:])))) {
				name := text[:at] + "|" + string(bytes.Join(parts, []byte("|"))) + "/" + string(rune('0'+len(parts)))
				k := Derive(key, text[:at], parts...)
				if other, there := derived[k]; there {
					t.Fatalf("%q and %q derive the same", other, name)
				}
				derived[k] = name
			}
		}
		if len(derived) < 1000 {
			t.Errorf("%d lists alone", len(derived))
		}
	}
}

func TestUnlikeListsOfParts(t *testing.T) {
	one, two := []byte("a"), []byte("b")
	k := New(some(20))
	derived := map[string]string{}
	for name, d := range map[string]*Key{
		"none": k.Derive("l"), "one empty": k.Derive("l", nil), "two empty": k.Derive("l", nil, nil),
		"ab": k.Derive("l", []byte("ab")), "a b": k.Derive("l", one, two), "b a": k.Derive("l", two, one),
		"ab and empty": k.Derive("l", []byte("ab"), nil), "empty and ab": k.Derive("l", nil, []byte("ab")),
		"a framed": k.Derive("l", []byte("\x00\x00\x00\x01a")), "a": k.Derive("l", one), "a b framed": k.Derive("l", []byte("a\x00\x00\x00\x01b")),
		"label la": k.Derive("la"), "label la, b": k.Derive("la", two), "no label": k.Derive(""), "no label, l": k.Derive("", []byte("l")),
	} {
		if other, there := derived[string(d.Bytes())]; there {
			t.Errorf("%s and %s derive the same", other, name)
		}
		derived[string(d.Bytes())] = name
	}
	if d := k.Derive("l", nil); !bytes.Equal(d.Bytes(), k.Derive("l", []byte{}).Bytes()) {
		t.Error("a nil part and an empty one are the same bytes, but derive unlike keys")
	}
}

// A key that is derived isn't the tag of the bare bytes either.
func TestDeriveIsNotTag(t *testing.T) {
	if Derive(some(20), "ab") == Tag(some(20), []byte("ab")) || Derive(some(20), "", some(3)) == Tag(some(20), some(3)) {
		t.Error("the same")
	}
}

func TestNilKey(t *testing.T) {
	var k *Key
	for i, parts := range lists() {
		if k.Tag(parts...) != rightTag(nil, parts...) || k.Tag(parts...) != New(nil).Tag(parts...) {
			t.Errorf("Tag of parts %d", i)
		}
		for _, label := range labels() {
			if k.Derive(label, parts...) != nil {
				t.Errorf("Derive by %q and parts %d", label, i)
			}
		}
	}
	if k.Bytes() != nil || k.Derive("a").Bytes() != nil {
		t.Error("Bytes")
	}
	if k.Print() != [8]byte{} || !Zero(k) || !Zero(k.Derive("a").Derive("b")) {
		t.Error("Print, or Zero")
	}
}

func TestBytesAreNotChanged(t *testing.T) {
	for _, n := range edges {
		room := append(some(n), bytes.Repeat([]byte{77}, 200)...)
		before := bytes.Clone(room)
		tag := rightTag(room[:n], room[:n])
		tags := append(tag[:], 9, 9)
		list := append(make([][]byte, 0, 9), room[:n/2], room[n/2:n])
		k := New(room[:n])
		for _, parts := range [][][]byte{list, list[:1], list[:0]} {
			Tag(room[:n], parts...)
			Derive(room[:n], "label", parts...)
			Check(room[:n], tags[:32], parts...)
			k.Tag(parts...)
			k.Derive("label", parts...).Tag(parts...)
		}
		Equal(room[:n], room[n:])
		k.Print()
		Zero(k)
		if !bytes.Equal(room, before) || !bytes.Equal(tags, append(tag[:], 9, 9)) {
			t.Errorf("length %d: bytes are changed", n)
		}
		if len(list[0]) != n/2 || len(list[1]) != n-n/2 || slices.ContainsFunc(list[2:9], func(b []byte) bool { return b != nil }) {
			t.Errorf("length %d: parts are changed", n)
		}
	}
}

func TestBytesAreNotKept(t *testing.T) {
	for _, n := range edges {
		b, part := some(n), some(30)
		k := New(b)
		d, want := k.Derive("a", part), rightKey(some(n), "a", part)
		for i := range b {
			b[i]++
		}
		clear(part)
		if !bytes.Equal(k.Bytes(), some(n)) || k.Tag() != rightTag(some(n)) {
			t.Errorf("key of %d: what was handed in is kept", n)
		}
		if !bytes.Equal(d.Bytes(), want[:]) {
			t.Errorf("key of %d: the derived one keeps what was handed in", n)
		}
	}
}

func TestBytesAreNotShared(t *testing.T) {
	for _, n := range edges {
		k := New(some(n))
		d := k.Derive("a")
		want := rightKey(some(n), "a")
		for _, x := range []*Key{k, d} {
			out := x.Bytes()
			clear(out[:cap(out)])
		}
		tag, print := k.Tag(), k.Print()
		clear(tag[:])
		clear(print[:])
		if !bytes.Equal(k.Bytes(), some(n)) || k.Tag() != rightTag(some(n)) || k.Print() == print {
			t.Errorf("key of %d: what was handed out is shared", n)
		}
		if !bytes.Equal(d.Bytes(), want[:]) {
			t.Errorf("key of %d: what the derived one handed out is shared", n)
		}
		first, second := k.Bytes(), k.Bytes()
		clear(first)
		if !bytes.Equal(second, some(n)) {
			t.Errorf("key of %d: two answers share their bytes", n)
		}
	}
}

// P1 and P2: every call ends, none panics, and the same calls answer the same.

func story(k *Key, b []byte, label string, parts ...[]byte) []any {
	tag := k.Tag(parts...)
	d := k.Derive(label, parts...)
	return []any{
		Tag(b, parts...), Derive(b, label, parts...), Equal(b, tag[:]), Equal(b, b), Check(b, tag[:], parts...), Check(b, b, parts...),
		tag, string(d.Bytes()), d.Tag(b), d.Print(), string(k.Bytes()), k.Print(), Zero(k), Zero(d), k.Tag(parts...),
	}
}

func TestTheSameCallsAnswerTheSame(t *testing.T) {
	for _, n := range edges {
		for _, b := range [][]byte{nil, some(n), make([]byte, n)} {
			for _, parts := range lists() {
				for _, k := range []*Key{nil, {}, New(b)} {
					first := story(k, b, "label", parts...)
					if !slices.Equal(first, story(k, b, "label", parts...)) {
						t.Errorf("key of %d", n)
					}
				}
				if !slices.Equal(story(New(b), b, "", parts...), story(New(b), b, "", parts...)) {
					t.Errorf("key of %d, made twice", n)
				}
			}
		}
	}
}

func FuzzMac(f *testing.F) {
	for _, n := range edges {
		f.Add(some(n), some(32), "label", some(100-n/2), n/3)
	}
	f.Fuzz(func(t *testing.T, key, tag []byte, label string, b []byte, at int) {
		at = int(uint(at) % uint(len(b)+1))
		want := rightTag(key, b)
		if Tag(key, b[:at], b[at:]) != want || New(key).Tag(b) != want || !Check(key, want[:], b) {
			t.Error("tag")
		}
		if Check(key, tag, b) != bytes.Equal(tag, want[:]) || Equal(key, tag) != bytes.Equal(key, tag) {
			t.Error("check")
		}
		derived := rightKey(key, label, b[:at], b[at:])
		if Derive(key, label, b[:at], b[at:]) != derived || !bytes.Equal(New(key).Derive(label, b[:at], b[at:]).Bytes(), derived[:]) {
			t.Error("derive")
		}
		if Zero(New(key)) != (len(bytes.Trim(key, "\x00")) == 0) {
			t.Error("zero")
		}
	})
}

func BenchmarkDerive(b *testing.B) {
	k := New(some(32))
	for b.Loop() {
		k.Derive("sender", some(2))
	}
}
