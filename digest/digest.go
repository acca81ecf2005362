// Package digest is layer 1, SHA-256: see shared/doc/01-digest.md.
package digest

import "vigil/api"

const signs = "0123456789abcdef"

// Sum is the digest of all parts' bytes, one behind the other.
func Sum(parts ...[]byte) [32]byte {
	var r Running
	return r.Add(parts...).Sum()
}

// Running is a digest that is told its bytes little by little. The zero
// Running was told nothing, and may be used.
type Running struct {
	state
}

// Add tells it the bytes of the parts, and answers it.
func (r *Running) Add(parts ...[]byte) *Running {
	if r == nil {
		return nil
	}
	for _, part := range parts {
		r.take(part)
	}
	return r
}

// Sum is the digest of all that it was told; it may be told more.
func (r *Running) Sum() [32]byte {
	if r == nil {
		return state{}.end()
	}
	return r.end()
}

// Len is how many bytes it was told.
func (r *Running) Len() int {
	if r == nil {
		return 0
	}
	return int(r.told)
}

// Copy is one of its own, as it is.
func (r *Running) Copy() *Running {
	if r == nil {
		return nil
	}
	own := *r
	return &own
}

// Hex is the bytes as signs, two of each.
func Hex(b []byte) string {
	out := make([]byte, 0, 2*len(b))
	for _, x := range b {
		out = append(out, signs[x>>4], signs[x&15])
	}
	return string(out)
}

// Bytes is the bytes whose signs Hex tells.
func Bytes(s string) ([]byte, api.Errno) {
	if len(s)%2 != 0 {
		return nil, api.ErrForm
	}
	out := make([]byte, 0, len(s)/2)
	for i := 0; i < len(s); i += 2 {
		high, ok := worth(s[i])
		if !ok {
			return nil, api.ErrForm
		}
		low, ok := worth(s[i+1])
		if !ok {
			return nil, api.ErrForm
		}
		out = append(out, high<<4|low)
	}
	return out, api.OK
}

func worth(sign byte) (byte, bool) {
	switch {
	case '0' <= sign && sign <= '9':
		return sign - '0', true
	case 'a' <= sign && sign <= 'f':
		return sign - 'a' + 10, true
	}
	return 0, false
}
