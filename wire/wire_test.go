package wire

import (
	"bytes"
	"encoding/binary"
	"encoding/hex"
	"math"
	"reflect"
	"slices"
	"testing"

	"vigil/api"
)

// The sizes, and those beside them that are none.
var (
	numbers = []int{One, Two, Four, Eight}
	sizes   = []int{One, Two, Four, Eight, Some}
	noSizes = []int{-1, 5, 6, 64, -64, 256, math.MinInt, math.MaxInt}
)

// widths and limits are those of the document, by the size.
var (
	widths = []int{1, 2, 4, 8}
	limits = []int{255, 65535, 4294967295, 9223372036854775807}
)

// The lengths of bytes about the ends of what is taken.
var lengths = []int{0, 1, 2, 255, 256, 257, 511, 512}

// some is so many bytes, no two neighbours of which are the same.
func some(n int) []byte {
	b := make([]byte, n)
	for i := range b {
		b[i] = byte(i*37 + i/64*11 + 5)
	}
	return b
}

// right is fields of each size, at the edges of what it holds.
func right() []Field {
	var out []Field
	for _, size := range numbers {
		for _, n := range []int{0, 1, 127, 128, 254, limits[size] / 2, limits[size]/2 + 1, limits[size] - 1, limits[size]} {
			out = append(out, Field{Size: size, N: n})
		}
	}
	out = append(out, Field{Size: Two, N: 258}, Field{Size: Four, N: 0x01020304}, Field{Size: Eight, N: 0x0102030405060708}, Field{Size: Some})
	for _, n := range lengths {
		out = append(out, Field{Size: Some, B: some(n)})
	}
	return out
}

// wrong is fields that aren't right, with their errors.
func wrong() []fault {
	var out []fault
	for _, size := range noSizes {
		for _, f := range []Field{{}, {N: 1}, {N: -1}, {B: some(1)}, {N: 7, B: some(513)}} {
			f.Size = size
			out = append(out, fault{f, api.ErrKind})
		}
	}
	for _, size := range numbers {
		for _, n := range []int{-1, -2, -255, -256, -257, -limits[size], -limits[size] - 1, math.MinInt, math.MinInt + 1} {
			out = append(out, fault{Field{Size: size, N: n}, api.ErrRange}, fault{Field{Size: size, N: n, B: some(2)}, api.ErrRange})
		}
		for _, n := range []int{1, 255, 512, 513, 5000} {
			out = append(out, fault{Field{Size: size, B: some(n)}, api.ErrRange}, fault{Field{Size: size, N: limits[size], B: some(n)}, api.ErrRange})
		}
	}
	for _, size := range []int{One, Two, Four} {
		for _, n := range []int{limits[size] + 1, limits[size] + 2, 2*limits[size] + 2, 1 << 62, math.MaxInt} {
			out = append(out, fault{Field{Size: size, N: n}, api.ErrRange}, fault{Field{Size: size, N: n, B: some(1)}, api.ErrRange})
		}
	}
	for _, n := range []int{1, -1, 256, math.MinInt, math.MaxInt} {
		for _, m := range []int{0, 1, 512, 513} {
			out = append(out, fault{Field{Size: Some, N: n, B: some(m)}, api.ErrRange})
		}
	}
	for _, n := range []int{513, 514, 1022, 1023, 1024, 1025, 65536, 65537, 1 << 20} {
		out = append(out, fault{Field{Size: Some, B: make([]byte, n)}, api.ErrLong})
	}
	return out
}

type fault struct {
	f    Field
	want api.Errno
}

// rightBytes is a field's bytes, by the library's own means.
func rightBytes(l ...Field) []byte {
	out := []byte{}
	for _, f := range l {
		switch f.Size {
		case One:
			out = append(out, byte(f.N))
		case Two:
			out = binary.BigEndian.AppendUint16(out, uint16(f.N))
		case Four:
			out = binary.BigEndian.AppendUint32(out, uint32(f.N))
		case Eight:
			out = binary.BigEndian.AppendUint64(out, uint64(f.N))
		case Some:
			out = append(binary.BigEndian.AppendUint16(out, uint16(len(f.B))), f.B...)
		}
	}
	return out
}

// gives fails unless this is what Out answers.
func gives(t *testing.T, w *Writer, b []byte, e api.Errno, what ...any) {
	t.Helper()
	for range 2 {
		if got, err := w.Out(); err != e || !bytes.Equal(got, b) || e != api.OK && got != nil {
			t.Errorf("%v: %d bytes %.60x, %d, want %d bytes %.60x, %d", what, len(got), got, err, len(b), b, e)
		}
	}
}

// stands fails unless these are the reader's error and how many bytes are left.
func stands(t *testing.T, r *Reader, e api.Errno, left int, what ...any) {
	t.Helper()
	end := e
	if e == api.OK && left > 0 {
		end = api.ErrForm
	}
	for range 2 {
		if r.Err() != e || r.Left() != left || r.End() != end {
			t.Errorf("%v: error %d, %d left, end %d; want %d, %d, %d", what, r.Err(), r.Left(), r.End(), e, left, end)
		}
	}
}

// closed fails unless the reader has this error, and reads nothing any more.
func closed(t *testing.T, r *Reader, e api.Errno, what ...any) {
	t.Helper()
	stands(t, r, e, 0, what...)
	for _, size := range append(slices.Clone(sizes), noSizes...) {
		if f := r.Get(size); !zero(f) || r.Number(size) != 0 {
			t.Errorf("%v: behind the error, size %d: %v", what, size, f)
		}
	}
	for _, longest := range []int{-1, 0, 512, math.MaxInt} {
		if b := r.Bytes(longest); b != nil {
			t.Errorf("%v: behind the error, bytes %v", what, b)
		}
	}
	stands(t, r, e, 0, what...)
}

func zero(f Field) bool {
	return f.Size == 0 && f.N == 0 && f.B == nil
}

func TestSizesAndErrors(t *testing.T) {
	if One != 0 || Two != 1 || Four != 2 || Eight != 3 || Some != 4 {
		t.Error("the sizes")
	}
	for i, e := range []api.Errno{Check(Field{Size: 5}), Check(Field{N: 256}), Check(Field{Size: Some, B: some(513)}), New(nil).End(), new(Reader).End()} {
		if want := []api.Errno{13, 10, 2, 0, 0}[i]; e != want {
			t.Errorf("%d: %d, want %d", i, e, want)
		}
	}
}

// P4.1: Check.

func TestCheckOfRightFields(t *testing.T) {
	for _, f := range right() {
		if e := Check(f); e != api.OK {
			t.Errorf("size %d, %d, %d bytes: %d", f.Size, f.N, len(f.B), e)
		}
	}
}

func TestCheckOfWrongFields(t *testing.T) {
	for _, c := range wrong() {
		if e := Check(c.f); e != c.want {
			t.Errorf("size %d, %d, %d bytes: %d, want %d", c.f.Size, c.f.N, len(c.f.B), e, c.want)
		}
	}
}

// No bytes aren't bytes beside a number, whether the list is nil or empty.
func TestCheckOfEmptyBytes(t *testing.T) {
	for _, size := range sizes {
		if e := Check(Field{Size: size, B: []byte{}}); e != api.OK {
			t.Errorf("size %d: %d", size, e)
		}
	}
	if e := Check(Field{}); e != api.OK {
		t.Errorf("the zero field: %d", e)
	}
}

func TestCheckAtEachLimit(t *testing.T) {
	for _, c := range []struct {
		size, n int
		want    api.Errno
	}{
		{One, -1, api.ErrRange}, {One, 0, api.OK}, {One, 255, api.OK}, {One, 256, api.ErrRange},
		{Two, -1, api.ErrRange}, {Two, 0, api.OK}, {Two, 65535, api.OK}, {Two, 65536, api.ErrRange},
		{Four, -1, api.ErrRange}, {Four, 0, api.OK}, {Four, 1<<32 - 1, api.OK}, {Four, 1 << 32, api.ErrRange},
		{Eight, math.MinInt64, api.ErrRange}, {Eight, -1, api.ErrRange}, {Eight, 0, api.OK}, {Eight, 1 << 32, api.OK}, {Eight, 1<<63 - 1, api.OK},
		{Some, -1, api.ErrRange}, {Some, 0, api.OK}, {Some, 1, api.ErrRange},
	} {
		if e := Check(Field{Size: c.size, N: c.n}); e != c.want {
			t.Errorf("size %d, %d: %d, want %d", c.size, c.n, e, c.want)
		}
	}
}

// P4.1: Put, Number, Bytes, Out.

func TestTheDocumentsExample(t *testing.T) {
	want, _ := hex.DecodeString("0102000161")
	var put, by Writer
	gives(t, put.Put(Field{Size: Two, N: 258}, Field{Size: Some, B: []byte("a")}), want, api.OK, "Put")
	gives(t, by.Number(Two, 258).Bytes([]byte("a")), want, api.OK, "Number, Bytes")
}

func TestWritersOfOneField(t *testing.T) {
	for _, f := range right() {
		var put, by Writer
		gives(t, put.Put(f), rightBytes(f), api.OK, "Put", f.Size, f.N, len(f.B))
		if f.Size == Some {
			by.Bytes(f.B)
		} else {
			by.Number(f.Size, f.N)
		}
		gives(t, &by, rightBytes(f), api.OK, "Number, Bytes", f.Size, f.N, len(f.B))
	}
}

func TestFieldsStandInTheirOrder(t *testing.T) {
	var a, b, c Writer
	l := []Field{{Size: One, N: 1}, {Size: One, N: 2}, {Size: Some, B: []byte("xy")}, {Size: Some}, {Size: Four, N: 3}, {Size: Eight, N: 4}}
	want, _ := hex.DecodeString("0102" + "00027879" + "0000" + "00000003" + "0000000000000004")
	gives(t, a.Put(l...), want, api.OK, "at once")
	for _, f := range l {
		b.Put(f)
	}
	gives(t, &b, want, api.OK, "one by one")
	gives(t, c.Number(One, 1, 2).Bytes([]byte("xy"), nil).Number(Four, 3).Number(Eight, 4), want, api.OK, "by their kinds")
}

func TestWriterAnswersItself(t *testing.T) {
	var w Writer
	for range 3 {
		if w.Put() != &w || w.Put(Field{}) != &w || w.Number(One) != &w || w.Number(One, 1) != &w || w.Bytes() != &w || w.Bytes(nil) != &w {
			t.Error("another one")
		}
		w.Put(Field{Size: -1})
	}
}

func TestNothingIsPut(t *testing.T) {
	var w Writer
	gives(t, &w, nil, api.OK, "the zero one")
	gives(t, w.Put().Number(One).Number(-1).Number(5).Bytes(), nil, api.OK, "no fields")
	gives(t, w.Number(One, 9).Put().Number(77).Bytes(), []byte{9}, api.OK, "no fields more")
}

func TestOutMayBeAskedInBetween(t *testing.T) {
	var w Writer
	var want []byte
	for i := range 200 {
		gives(t, &w, want, api.OK, i)
		w.Number(One, i)
		want = append(want, byte(i))
	}
}

// A number that is put as bytes is a field of bytes, which has none.
func TestNumberOfBytes(t *testing.T) {
	var w, v Writer
	gives(t, w.Number(Some, 0), []byte{0, 0}, api.OK, "0")
	gives(t, v.Number(Some, 1), nil, api.ErrRange, "1")
}

// full is a writer that has so many bytes.
func full(n int) (*Writer, []byte) {
	w := new(Writer)
	for range n {
		w.Number(One, 200)
	}
	return w, bytes.Repeat([]byte{200}, n)
}

func TestWriterUpToItsEnd(t *testing.T) {
	for _, size := range numbers {
		last := Field{Size: size, N: limits[size] - 1}
		for _, by := range []func(w *Writer) *Writer{
			func(w *Writer) *Writer { return w.Put(last) },
			func(w *Writer) *Writer { return w.Number(last.Size, last.N) },
		} {
			w, had := full(1024 - widths[size])
			gives(t, by(w), append(had, rightBytes(last)...), api.OK, "up to 1024", size)
			gives(t, by(w), nil, api.ErrLong, "behind it", size)
			w, _ = full(1025 - widths[size])
			gives(t, by(w), nil, api.ErrLong, "one more", size)
		}
	}
	for _, n := range lengths {
		last := Field{Size: Some, B: some(n)}
		for _, by := range []func(w *Writer) *Writer{
			func(w *Writer) *Writer { return w.Put(last) },
			func(w *Writer) *Writer { return w.Bytes(last.B) },
		} {
			w, had := full(1022 - n)
			gives(t, by(w), append(had, rightBytes(last)...), api.OK, "up to 1024", n)
			gives(t, by(w), nil, api.ErrLong, "behind it", n)
			w, _ = full(1023 - n)
			gives(t, by(w), nil, api.ErrLong, "one more", n)
		}
	}
}

func TestManyAtOnceUpToTheEnd(t *testing.T) {
	ones, zeros := bytes.Repeat([]byte{1}, 1024), make([]int, 1025)
	for i := range zeros {
		zeros[i] = 1
	}
	var w Writer
	gives(t, w.Number(One, zeros[:1024]...), ones, api.OK, "1024 numbers")
	gives(t, new(Writer).Number(One, zeros...), nil, api.ErrLong, "1025 numbers")
	gives(t, new(Writer).Number(Eight, zeros[:128]...), bytes.Repeat([]byte{0, 0, 0, 0, 0, 0, 0, 1}, 128), api.OK, "128 of eight bytes")
	gives(t, new(Writer).Number(Eight, zeros[:129]...), nil, api.ErrLong, "129 of eight bytes")
	gives(t, new(Writer).Bytes(make([][]byte, 512)...), make([]byte, 1024), api.OK, "512 of no bytes")
	gives(t, new(Writer).Bytes(make([][]byte, 513)...), nil, api.ErrLong, "513 of no bytes")
	gives(t, new(Writer).Put(make([]Field, 1024)...), make([]byte, 1024), api.OK, "1024 fields")
	gives(t, new(Writer).Put(make([]Field, 1025)...), nil, api.ErrLong, "1025 fields")
	gives(t, new(Writer).Bytes(some(512), some(508)), rightBytes(Field{Size: Some, B: some(512)}, Field{Size: Some, B: some(508)}), api.OK, "512 and 508")
	gives(t, new(Writer).Bytes(some(512), some(509)), nil, api.ErrLong, "512 and 509")
}

// What would have room doesn't follow what had none.
func TestNothingIsPutBehindWhatHadNoRoom(t *testing.T) {
	for _, by := range []func(w *Writer) *Writer{
		func(w *Writer) *Writer { return w.Number(Eight, 1).Number(One, 1) },
		func(w *Writer) *Writer { return w.Number(Eight, 1, 0) },
		func(w *Writer) *Writer { return w.Put(Field{Size: Four, N: 7}, Field{Size: One, N: 7}) },
		func(w *Writer) *Writer { return w.Bytes(some(2), nil) },
		func(w *Writer) *Writer { return w.Bytes(some(2)).Bytes() },
		func(w *Writer) *Writer { return w.Bytes(some(2)).Number(One, 256).Put(Field{Size: 9}) },
	} {
		w, _ := full(1021)
		gives(t, by(w), nil, api.ErrLong)
		gives(t, w.Put(Field{}), nil, api.ErrLong, "later")
	}
}

func TestNothingIsPutBehindAWrongField(t *testing.T) {
	for _, c := range wrong() {
		var alone, among, behind, other, by Writer
		what := []any{c.f.Size, c.f.N, len(c.f.B)}
		gives(t, alone.Put(c.f), nil, c.want, what...)
		gives(t, among.Put(Field{N: 1}, c.f, Field{N: 2}), nil, c.want, what...)
		gives(t, behind.Number(One, 3).Put(c.f).Put(Field{N: 1}).Number(Two, 5).Bytes(some(3)), nil, c.want, what...)
		gives(t, other.Put(c.f).Number(-1, 0).Number(One, 256).Bytes(some(513)).Bytes(some(512), some(512)), nil, c.want, what...)
		if c.f.Size == Some && c.f.N == 0 {
			gives(t, by.Bytes(some(1), c.f.B, some(1)), nil, c.want, what...)
		} else if len(c.f.B) == 0 {
			gives(t, by.Number(c.f.Size, c.f.N, 1), nil, c.want, what...)
		}
	}
}

func TestTheFirstErrorOfAWriterStays(t *testing.T) {
	var kind, size, long Writer
	gives(t, kind.Put(Field{Size: 5}, Field{N: -1}, Field{Size: Some, B: some(513)}), nil, api.ErrKind)
	gives(t, size.Put(Field{N: -1}, Field{Size: Some, B: some(513)}, Field{Size: 5}), nil, api.ErrRange)
	gives(t, long.Put(Field{Size: Some, B: some(513)}, Field{Size: 5}, Field{N: -1}), nil, api.ErrLong)
	gives(t, new(Writer).Number(One, 1, 256, -1).Number(5, 1), nil, api.ErrRange)
	gives(t, new(Writer).Bytes(nil, some(513)).Number(One, 256), nil, api.ErrLong)
}

// A wrong field's own error is told, even where it would have no room.
func TestAWrongFieldWithoutRoom(t *testing.T) {
	for _, c := range wrong() {
		w, _ := full(1024)
		gives(t, w.Put(c.f), nil, c.want, c.f.Size, c.f.N, len(c.f.B))
	}
}

// P4.2: Get, Number, Bytes.

func TestReadersOfOneField(t *testing.T) {
	for _, f := range right() {
		b := rightBytes(f)
		for _, more := range []int{0, 1, 100} {
			in := append(bytes.Clone(b), make([]byte, more)...)
			r := New(in)
			if got := r.Get(f.Size); got.Size != f.Size || got.N != f.N || !bytes.Equal(got.B, f.B) || f.Size != Some && got.B != nil {
				t.Errorf("size %d: %v, want %v", f.Size, got, f)
			}
			stands(t, r, api.OK, more, "Get", f.Size, f.N, len(f.B))
			r = New(in)
			if f.Size != Some && r.Number(f.Size) != f.N || f.Size == Some && !bytes.Equal(r.Bytes(512), f.B) {
				t.Errorf("size %d: not %v", f.Size, f)
			}
			stands(t, r, api.OK, more, "Number, Bytes", f.Size, f.N, len(f.B))
		}
	}
}

func TestReaderOfSizesThatAreNone(t *testing.T) {
	for _, b := range [][]byte{nil, some(1), {0, 0, 0, 0, 0, 0, 0, 0}, some(1024)} {
		for _, size := range noSizes {
			r := New(b)
			if f := r.Get(size); !zero(f) {
				t.Errorf("Get(%d): %v", size, f)
			}
			closed(t, r, api.ErrKind, "Get", size)
			r = New(b)
			if n := r.Number(size); n != 0 {
				t.Errorf("Number(%d): %d", size, n)
			}
			closed(t, r, api.ErrKind, "Number", size)
		}
		r := New(b)
		if n := r.Number(Some); n != 0 {
			t.Errorf("Number(Some): %d", n)
		}
		closed(t, r, api.ErrKind, "Number of bytes")
	}
}

func TestBytesAreMissing(t *testing.T) {
	for _, f := range right() {
		b := rightBytes(f)
		for n := range b {
			r := New(b[:n])
			if got := r.Get(f.Size); !zero(got) {
				t.Errorf("size %d of %d bytes: %v", f.Size, n, got)
			}
			closed(t, r, api.ErrEnd, "Get", f.Size, n)
			r = New(b[:n])
			if f.Size == Some {
				if got := r.Bytes(512); got != nil {
					t.Errorf("Bytes of %d bytes: %v", n, got)
				}
			} else if got := r.Number(f.Size); got != 0 {
				t.Errorf("Number(%d) of %d bytes: %d", f.Size, n, got)
			}
			closed(t, r, api.ErrEnd, "Number, Bytes", f.Size, n)
		}
	}
}

func TestBytesAreMissingBehindOthers(t *testing.T) {
	r := New([]byte{1, 2, 3})
	if r.Number(Two) != 0x0102 || r.Left() != 1 || r.Number(Two) != 0 {
		t.Error("read")
	}
	closed(t, r, api.ErrEnd)
	r = New(nil)
	r.Get(One)
	closed(t, r, api.ErrEnd, "of none")
	r = new(Reader)
	stands(t, r, api.OK, 0, "the zero one")
	r.Get(Eight)
	closed(t, r, api.ErrEnd, "of the zero one")
}

func TestNumbersThatAreTooGreat(t *testing.T) {
	for _, n := range []uint64{1 << 63, 1<<63 + 1, 1<<63 + 1<<62, math.MaxUint64 - 1, math.MaxUint64} {
		b := append(binary.BigEndian.AppendUint64(nil, n), 1, 2, 3)
		r := New(b)
		if f := r.Get(Eight); !zero(f) {
			t.Errorf("%d: %v", n, f)
		}
		closed(t, r, api.ErrForm, "Get", n)
		r = New(b)
		if got := r.Number(Eight); got != 0 {
			t.Errorf("%d: %d", n, got)
		}
		closed(t, r, api.ErrForm, "Number", n)
		r = New(b[:7])
		r.Get(Eight)
		closed(t, r, api.ErrEnd, "cut", n)
	}
	if r := New([]byte{255, 255, 255, 255, 255, 255, 255}); r.Number(One) != 255 || r.Number(Two) != 65535 || r.Number(Four) != 1<<32-1 || r.End() != api.OK {
		t.Error("numbers whose highest bit is 1")
	}
}

func TestCountsThatAreTooGreat(t *testing.T) {
	for _, count := range []int{513, 514, 600, 1022, 1023, 32768, 65535} {
		for _, there := range []int{0, 1, 512, 513, 514, min(count, 1022)} {
			b := append([]byte{byte(count >> 8), byte(count)}, some(there)...)
			for _, longest := range []int{-1, 0, 512, 513, 70000} {
				r := New(b)
				if got := r.Bytes(longest); got != nil {
					t.Errorf("Bytes: %d bytes", len(got))
				}
				closed(t, r, api.ErrForm, "Bytes", count, there, longest)
			}
			r := New(b)
			if f := r.Get(Some); !zero(f) {
				t.Errorf("Get: %d bytes", len(f.B))
			}
			closed(t, r, api.ErrForm, "Get", count, there)
		}
	}
}

func TestMoreBytesThanLongest(t *testing.T) {
	for _, n := range lengths {
		b := append(rightBytes(Field{Size: Some, B: some(n)}), 9)
		for _, longest := range []int{math.MinInt, -513, -1, 0, 1, n - 2, n - 1, n, n + 1, 511, 512, 513, 1024, math.MaxInt} {
			r := New(b)
			got := r.Bytes(longest)
			if n <= longest {
				if !bytes.Equal(got, some(n)) {
					t.Errorf("%d of %d: %v", n, longest, got)
				}
				stands(t, r, api.OK, 1, n, longest)
				continue
			}
			if got != nil {
				t.Errorf("%d of %d: %d bytes", n, longest, len(got))
			}
			closed(t, r, api.ErrForm, n, longest)
		}
	}
}

// That bytes are missing comes ahead of how many there may be.
func TestMissingBytesAndLongest(t *testing.T) {
	for _, longest := range []int{-1, 0, 2, 3, 4, 512} {
		r := New([]byte{0, 4, 'a', 'b', 'c'})
		r.Bytes(longest)
		closed(t, r, api.ErrEnd, longest)
		r = New([]byte{0})
		r.Bytes(longest)
		closed(t, r, api.ErrEnd, "of a count", longest)
	}
}

// P4.2: Left, Err, End, New, Same.

func TestLeftAndEndWhileReading(t *testing.T) {
	r := New(rightBytes(Field{N: 1}, Field{Size: Some, B: some(3)}, Field{Size: Eight, N: 7}, Field{Size: Some}))
	stands(t, r, api.OK, 16)
	r.Get(One)
	stands(t, r, api.OK, 15)
	r.Get(Some)
	stands(t, r, api.OK, 10)
	if r.Get(Eight).N != 7 {
		t.Error("End changed what is read")
	}
	stands(t, r, api.OK, 2)
	r.Bytes(0)
	stands(t, r, api.OK, 0)
	r.Get(One)
	closed(t, r, api.ErrEnd)
}

func TestTheFirstErrorOfAReaderStays(t *testing.T) {
	for _, c := range []struct {
		first func(r *Reader)
		want  api.Errno
	}{
		{func(r *Reader) { r.Get(5) }, api.ErrKind},
		{func(r *Reader) { r.Number(Some) }, api.ErrKind},
		{func(r *Reader) { r.Number(Eight) }, api.ErrForm},
		{func(r *Reader) { r.Number(One); r.Bytes(512); r.Get(9) }, api.ErrForm},
		{func(r *Reader) { r.Bytes(9) }, api.ErrForm},
		{func(r *Reader) { r.Number(Four); r.Number(Eight) }, api.ErrEnd},
	} {
		r := New([]byte{255, 255, 0, 0, 0, 0, 0, 0, 0, 1})
		c.first(r)
		closed(t, r, c.want)
		r.Number(Some)
		r.Get(-1)
		r.Get(Eight)
		r.Bytes(-1)
		closed(t, r, c.want, "later")
	}
}

func TestNewOfMany(t *testing.T) {
	for _, n := range []int{0, 1, 1023, 1024} {
		stands(t, New(make([]byte, n)), api.OK, n, n)
	}
	for _, n := range []int{1025, 1026, 2048, 65536 + 9} {
		closed(t, New(make([]byte, n)), api.ErrLong, n)
	}
	r := New(some(1024))
	for i, x := range some(1024) {
		if r.Number(One) != int(x) {
			t.Fatalf("byte %d", i)
		}
	}
	stands(t, r, api.OK, 0)
}

func TestSame(t *testing.T) {
	l := append(right(), Field{Size: One, B: []byte("x")}, Field{Size: Some, N: 4}, Field{Size: 9}, Field{Size: -1, N: -1, B: some(600)},
		Field{Size: Some, B: []byte("ab")}, Field{Size: Some, B: []byte("ac")}, Field{Size: Some, B: []byte("bb")})
	for i, a := range l {
		for j, b := range l {
			own := Field{a.Size, a.N, bytes.Clone(a.B)}
			if want := a.Size == b.Size && a.N == b.N && string(a.B) == string(b.B); Same(own, b) != want || Same(b, own) != want {
				t.Errorf("%d and %d: not %v", i, j, want)
			}
		}
	}
	for i, c := range []struct {
		a, b Field
		want bool
	}{
		{Field{}, Field{}, true}, {Field{}, Field{Size: One, N: 0, B: []byte{}}, true}, {Field{Size: Some}, Field{Size: Some, B: []byte{}}, true},
		{Field{Size: One, N: 1}, Field{Size: Two, N: 1}, false}, {Field{N: 1}, Field{N: 2}, false}, {Field{Size: Some, N: 1}, Field{Size: Some}, false},
		{Field{Size: Some, B: some(3)}, Field{Size: Some, B: some(3)}, true}, {Field{Size: Some, B: some(3)}, Field{Size: Some, B: some(4)}, false},
		{Field{Size: Some, B: []byte{0}}, Field{Size: Some}, false}, {Field{}, Field{Size: Some}, false},
	} {
		if Same(c.a, c.b) != c.want || Same(c.b, c.a) != c.want {
			t.Errorf("case %d: not %v", i, c.want)
		}
	}
}

// P4.3: what was put is got as it was.

// mixed is a list of right fields that fits into a packet, by a seed.
func mixed(seed int) []Field {
	var out []Field
	used, all := 0, right()
	for i := range 40 {
		f := all[(seed+i*(1+seed/len(all)))%len(all)]
		if n := len(rightBytes(f)); used+n <= 1024 {
			out, used = append(out, f), used+n
		}
	}
	if room := 1024 - used - 2; seed%2 == 1 && room >= 0 {
		out = append(out, Field{Size: Some, B: some(min(room, 512))})
	}
	return out
}

func TestWhatWasPutIsGot(t *testing.T) {
	longest := 0
	for seed := range 3000 {
		l := mixed(seed)
		var w Writer
		b, e := w.Put(l...).Out()
		if e != api.OK || !bytes.Equal(b, rightBytes(l...)) {
			t.Fatalf("seed %d: %d", seed, e)
		}
		longest = max(longest, len(b))
		r, again, left := New(b), New(b), len(b)
		for i, f := range l {
			if got := r.Get(f.Size); !Same(got, f) || Check(got) != api.OK {
				t.Fatalf("seed %d, field %d: %v, want %v", seed, i, got, f)
			}
			if f.Size == Some && !bytes.Equal(again.Bytes(len(f.B)), f.B) || f.Size != Some && again.Number(f.Size) != f.N {
				t.Fatalf("seed %d, field %d: not %v", seed, i, f)
			}
			left -= len(rightBytes(f))
			stands(t, r, api.OK, left, seed, i)
			stands(t, again, api.OK, left, seed, i)
		}
	}
	if longest != 1024 {
		t.Errorf("the longest packet has %d bytes", longest)
	}
}

// rightField is what the next field of the bytes is, by the document's words.
func rightField(b []byte, size int) (Field, api.Errno) {
	switch {
	case size < 0 || size > 4:
		return Field{}, api.ErrKind
	case size < 4 && len(b) < widths[size] || size == 4 && len(b) < 2:
		return Field{}, api.ErrEnd
	case size == 3 && b[0] >= 128:
		return Field{}, api.ErrForm
	case size < 4:
		n := binary.BigEndian.Uint64(append(make([]byte, 8-widths[size]), b[:widths[size]]...))
		return Field{Size: size, N: int(n)}, api.OK
	}
	count := int(binary.BigEndian.Uint16(b))
	switch {
	case count > 512:
		return Field{}, api.ErrForm
	case len(b) < 2+count:
		return Field{}, api.ErrEnd
	}
	return Field{Size: size, B: b[2 : 2+count]}, api.OK
}

// readAll reads fields of the orders' sizes, and holds each against the right one;
// it answers what it got.
func readAll(t *testing.T, b, orders []byte) ([]Field, *Reader) {
	r := New(b)
	var got []Field
	if len(b) > 1024 {
		closed(t, r, api.ErrLong)
		return nil, r
	}
	for i, o := range orders {
		size := int(o%8) - 1
		want, e := rightField(b, size)
		f := r.Get(size)
		if e != api.OK {
			if !zero(f) {
				t.Fatalf("order %d: %v", i, f)
			}
			closed(t, r, e, i)
			return got, r
		}
		if !Same(f, want) {
			t.Fatalf("order %d: %v, want %v", i, f, want)
		}
		got, b = append(got, f), b[len(rightBytes(f)):]
		stands(t, r, api.OK, len(b), i)
	}
	return got, r
}

// What is got of any bytes is right, and put again it is those bytes.
func TestAnyBytes(t *testing.T) {
	state, ends := uint32(7), map[api.Errno]int{}
	next := func(most int) int {
		state = state*1664525 + 1013904223
		return int(state>>8) % most
	}
	for range 20000 {
		b, orders := make([]byte, next(1030)), make([]byte, next(30))
		for i := range b {
			if b[i] = byte(next(256)); next(3) > 0 {
				b[i] %= 3
			}
		}
		for i := range orders {
			orders[i] = byte(1 + next(5))
			if next(40) == 0 {
				orders[i] = byte(next(8))
			}
		}
		got, r := readAll(t, b, orders)
		ends[r.Err()]++
		var w Writer
		out, e := w.Put(got...).Out()
		if e != api.OK || !bytes.HasPrefix(b, out) {
			t.Fatalf("%v: %d", got, e)
		}
	}
	for _, e := range []api.Errno{api.OK, api.ErrKind, api.ErrForm, api.ErrEnd, api.ErrLong} {
		if ends[e] == 0 {
			t.Errorf("no reader ends by %d", e)
		}
	}
}

func TestNilWriter(t *testing.T) {
	var w *Writer
	if w.Put() != nil || w.Put(Field{}, Field{Size: 9}) != nil || w.Number(One) != nil || w.Number(One, 1, -1) != nil || w.Number(-1, 1) != nil || w.Bytes() != nil || w.Bytes(nil, some(3), some(600)) != nil {
		t.Error("not nil")
	}
	gives(t, w, nil, api.ErrState)
	gives(t, w.Put(Field{Size: 9}).Number(One, 1).Bytes(nil), nil, 11)
}

func TestNilReader(t *testing.T) {
	var r *Reader
	closed(t, r, api.ErrState)
	closed(t, r, 11)
}

func TestZeroReader(t *testing.T) {
	for _, size := range sizes {
		r := new(Reader)
		stands(t, r, api.OK, 0, size)
		r.Get(size)
		closed(t, r, api.ErrEnd, size)
	}
}

// scribble writes over all that a slice reaches.
func scribble(b []byte) {
	b = b[:cap(b)]
	for i := range b {
		b[i] ^= 0xa5
	}
}

// roomy is the bytes with others behind them, which mustn't be written to.
func roomy(b []byte) []byte {
	return append(bytes.Clone(b), bytes.Repeat([]byte{77}, 50)...)
}

func TestBytesAreNotChanged(t *testing.T) {
	for _, n := range lengths {
		b, packet := roomy(some(n)), roomy(rightBytes(Field{Size: Some, B: some(n)}))
		fields := []Field{{Size: Some, B: b[:n]}, {Size: One, N: 3}, {Size: 9}, {Size: One}}
		list, ints := [][]byte{b[:n], nil, make([]byte, 513)}, []int{1, 2, 256, 3}
		var w Writer
		w.Put(fields...).Bytes(list...).Number(One, ints...)
		new(Writer).Bytes(list...)
		new(Writer).Number(One, ints...)
		Check(fields[0])
		Same(fields[0], fields[0])
		r := New(packet[:n+2])
		r.Get(Some)
		r.Get(One)
		if !bytes.Equal(b, roomy(some(n))) || !bytes.Equal(packet, roomy(rightBytes(Field{Size: Some, B: some(n)}))) {
			t.Errorf("%d bytes are changed", n)
		}
		if !reflect.DeepEqual(fields, []Field{{Size: Some, B: some(n)}, {Size: One, N: 3}, {Size: 9}, {Size: One}}) ||
			!reflect.DeepEqual(list, [][]byte{some(n), nil, make([]byte, 513)}) || !slices.Equal(ints, []int{1, 2, 256, 3}) {
			t.Errorf("%d bytes: a list is changed", n)
		}
	}
}

func TestWritersKeepAndShareNothing(t *testing.T) {
	for _, n := range lengths {
		b := some(n)
		want := rightBytes(Field{Size: Some, B: b}, Field{N: 8}, Field{Size: Some, B: b[:n/3]})
		var w Writer
		w.Put(Field{Size: Some, B: b}).Number(One, 8).Bytes(b[:n/3])
		first, _ := w.Out()
		scribble(b)
		if !bytes.Equal(first, want) {
			t.Errorf("%d bytes: what was answered shares what was put", n)
		}
		gives(t, &w, want, api.OK, "what was put is kept", n)
		scribble(first)
		gives(t, &w, want, api.OK, "what was answered is kept", n)
		second, _ := w.Out()
		third, _ := w.Out()
		scribble(second)
		if !bytes.Equal(third, want) {
			t.Errorf("%d bytes: two answers share", n)
		}
		w.Number(One, 9)
		if !bytes.Equal(third, want) {
			t.Errorf("%d bytes: what is put later is in what was answered", n)
		}
	}
}

func TestReadersKeepAndShareNothing(t *testing.T) {
	for _, n := range lengths {
		fields := []Field{{Size: Some, B: some(n)}, {Size: Four, N: 77}, {Size: Some, B: some(n / 2)}, {Size: Some, B: []byte("end")}}
		in := rightBytes(fields...)
		r, other := New(in), New(in)
		scribble(in)
		first := r.Get(Some)
		if !Same(first, fields[0]) {
			t.Errorf("%d bytes: what was handed in is kept", n)
		}
		before := bytes.Clone(in)
		scribble(first.B)
		if !bytes.Equal(in, before) {
			t.Errorf("%d bytes: what is answered shares what was handed in", n)
		}
		if r.Number(Four) != 77 {
			t.Errorf("%d bytes: the number", n)
		}
		second := r.Bytes(512)
		scribble(second)
		if last := r.Get(Some); string(last.B) != "end" || r.End() != api.OK {
			t.Errorf("%d bytes: what was answered reaches what isn't read", n)
		}
		if again := other.Get(Some); !Same(again, fields[0]) {
			t.Errorf("%d bytes: two readers share", n)
		}
	}
}

// A writer or a reader that is copied goes its own way.
func TestCopiesGoTheirOwnWay(t *testing.T) {
	for n := range 70 {
		w, _ := full(n)
		own := *w
		w.Number(One, 1)
		own.Number(Two, 515)
		_, had := full(n)
		gives(t, w, append(had, 1), api.OK, n)
		_, had = full(n)
		gives(t, &own, append(had, 2, 3), api.OK, n)
	}
	r := New([]byte{1, 2, 3})
	r.Get(One)
	own := *r
	r.Get(9)
	if own.Number(Two) != 0x0203 || own.End() != api.OK {
		t.Error("a reader")
	}
	closed(t, r, api.ErrKind)
}

// P1 and P2: every call ends, none panics, and the same calls answer the same.

func story(w *Writer, r *Reader, f Field, n int) []any {
	w.Put(f).Number(f.Size, f.N, n).Bytes(f.B).Number(n, f.N)
	out, e := w.Put(f, f).Out()
	got, number, b := r.Get(f.Size), r.Number(n), r.Bytes(n)
	back := New(out)
	next := back.Get(f.Size)
	return []any{
		string(out), e, got.Size, got.N, string(got.B), number, string(b), r.Left(), r.Err(), r.End(), r.Number(f.Size), r.Err(),
		Check(f), Check(got), Same(f, got), next.Size, next.N, string(next.B), back.Left(), back.Err(), back.End(),
	}
}

func TestTheSameCallsAnswerTheSame(t *testing.T) {
	fields := right()
	for _, c := range wrong() {
		fields = append(fields, c.f)
	}
	for _, f := range fields {
		for _, n := range []int{math.MinInt, -1, 0, 1, 2, 3, 4, 5, 512, math.MaxInt} {
			for _, b := range [][]byte{nil, {0}, {0, 1, 2, 3, 4, 5, 6, 7, 8, 9}, some(1024), some(1025)} {
				if !slices.Equal(story(new(Writer), New(b), f, n), story(new(Writer), New(b), f, n)) {
					t.Errorf("size %d, %d, %d bytes, %d, %d to read", f.Size, f.N, len(f.B), n, len(b))
				}
			}
			if !slices.Equal(story(nil, nil, f, n), story(nil, nil, f, n)) {
				t.Errorf("size %d, %d, %d bytes, %d, of nil", f.Size, f.N, len(f.B), n)
			}
		}
	}
}

func FuzzRead(f *testing.F) {
	f.Add([]byte{1, 2, 0, 1, 'a'}, []byte{2, 5})
	f.Add(append([]byte{2, 0}, some(512)...), []byte{5})
	f.Add([]byte{2, 1}, []byte{5})
	f.Add([]byte{128, 0, 0, 0, 0, 0, 0, 0}, []byte{4})
	f.Add(some(1025), []byte{1})
	f.Fuzz(func(t *testing.T, b, orders []byte) {
		got, _ := readAll(t, b, orders)
		var w Writer
		if out, e := w.Put(got...).Out(); e != api.OK || !bytes.HasPrefix(b, out) {
			t.Errorf("%v: %d", got, e)
		}
	})
}

func FuzzPut(f *testing.F) {
	f.Add(1, 258, []byte{}, 4, 0, []byte("a"))
	f.Add(0, 256, []byte("x"), 5, -1, some(513))
	f.Fuzz(func(t *testing.T, size, n int, b []byte, size2, n2 int, b2 []byte) {
		l := []Field{{size, n, b}, {size2, n2, b2}}
		var w Writer
		out, e := w.Put(l...).Out()
		want := Check(l[0])
		if want == api.OK {
			want = Check(l[1])
		}
		if want == api.OK && len(rightBytes(l...)) > 1024 {
			want = api.ErrLong
		}
		if e != want || e == api.OK && !bytes.Equal(out, rightBytes(l...)) || e != api.OK && out != nil {
			t.Fatalf("%v: %x %d, want %d", l, out, e, want)
		}
		if r := New(out); e == api.OK && (!Same(r.Get(size), l[0]) || !Same(r.Get(size2), l[1]) || r.End() != api.OK) {
			t.Errorf("%v isn't got", l)
		}
	})
}

func BenchmarkPutAndGet(b *testing.B) {
	text := some(64)
	for b.Loop() {
		var w Writer
		out, _ := w.Number(One, 1, 2).Number(Eight, 3).Bytes(text).Out()
		r := New(out)
		r.Number(Two)
		r.Number(Eight)
		r.Bytes(64)
	}
}
