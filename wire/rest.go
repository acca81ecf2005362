package wire

import (
	"bytes"

	"vigil/api"
)

// rest is the bytes that aren't read yet. What fails may have taken bytes off it.
type rest []byte

func (r *rest) field(size int) (Field, api.Errno) {
	if !known(size) {
		return Field{}, api.ErrKind
	}
	if size == Some {
		b, e := r.some()
		return Field{Size: size, B: b}, e
	}
	n, e := r.number(size)
	return Field{Size: size, N: n}, e
}

// some copies the bytes, so that who gets them shares none with the reader.
func (r *rest) some() ([]byte, api.Errno) {
	count, e := r.number(Two)
	if e != api.OK {
		return nil, e
	}
	if count > longestBytes {
		return nil, api.ErrForm
	}
	b, e := r.take(count)
	return bytes.Clone(b), e
}

func (r *rest) number(size int) (int, api.Errno) {
	b, e := r.take(width(size))
	if e != api.OK {
		return 0, e
	}
	n := 0
	for _, x := range b {
		n = n<<8 | int(x)
	}
	if n < 0 { // its highest bit, which only a number of eight bytes has
		return 0, api.ErrForm
	}
	return n, api.OK
}

// take takes the first n bytes off.
func (r *rest) take(n int) ([]byte, api.Errno) {
	if n > len(*r) {
		return nil, api.ErrEnd
	}
	first := (*r)[:n]
	*r = (*r)[n:]
	return first, api.OK
}
