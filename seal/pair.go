package seal

import (
	"bytes"

	"vigil/api"
	"vigil/mac"
)

const longestNonce = 32

// pair is a key as it seals: what hides and what binds are keys of their own, so
// that no block of a stream is the tag of something bound. A nil pair is that of a
// nil key.
type pair struct {
	hiding, binding *mac.Key
}

func derived(key *mac.Key) *pair {
	if key == nil {
		return nil
	}
	return &pair{key.Derive("hide"), key.Derive("bind")}
}

// takes is whether it can do anything with the nonce.
func (p *pair) takes(nonce []byte) bool {
	return p != nil && len(nonce) <= longestNonce
}

func (p *pair) sealed(nonce, bound, b []byte) ([]byte, api.Errno) {
	if !p.takes(nonce) {
		return nil, api.ErrArg
	}
	if len(b) > Longest {
		return nil, api.ErrLong
	}
	body := p.turned(nonce, b)
	tag := p.bind(nonce, bound, body)
	return append(body, tag[:]...), api.OK
}

// opened holds the tag against the right one ahead of turning anything, so that
// nothing is read of what was forged.
func (p *pair) opened(nonce, bound, sealed []byte) ([]byte, api.Errno) {
	if !p.takes(nonce) {
		return nil, api.ErrArg
	}
	if len(sealed) < api.TagSize {
		return nil, api.ErrEnd
	}
	if len(sealed) > Size(Longest) {
		return nil, api.ErrLong
	}
	end := Masked(sealed)
	right := p.bind(nonce, bound, sealed[:end])
	if !mac.Equal(right[:], sealed[end:]) {
		return nil, api.ErrTag
	}
	return p.turned(nonce, sealed[:end]), api.OK
}

// stream is cut at its capacity too: what is left of its last block would tell how
// the next bytes are hidden.
func (p *pair) stream(nonce []byte, n int) ([]byte, api.Errno) {
	if !p.takes(nonce) || n < 0 {
		return nil, api.ErrArg
	}
	if n > Longest {
		return nil, api.ErrLong
	}
	out := make([]byte, 0, n+api.TagSize)
	for i := 0; len(out) < n; i++ {
		block := p.block(nonce, i)
		out = append(out, block[:]...)
	}
	return out[:n:n], api.OK
}

// turned is the bytes with the bits of the stream's turned, each at its place:
// turned twice they are as they were.
func (p *pair) turned(nonce, b []byte) []byte {
	out := bytes.Clone(b)
turning:
	for n := 0; ; n++ {
		block := p.block(nonce, n)
		for i, bits := range block {
			at := n*len(block) + i
			if at == len(out) {
				break turning
			}
			out[at] ^= bits
		}
	}
	return out
}

// block has the nonce's length ahead of it, so that no nonce with a number behind
// it is another one with another number.
func (p *pair) block(nonce []byte, n int) [api.TagSize]byte {
	return p.hiding.Tag([]byte{byte(len(nonce))}, nonce, four(n))
}

// bind is the tag of the parts, each with its length ahead, so that none grows by
// what its neighbour loses.
func (p *pair) bind(parts ...[]byte) [api.TagSize]byte {
	framed := make([][]byte, 0, 2*len(parts))
	for _, part := range parts {
		framed = append(framed, four(len(part)), part)
	}
	return p.binding.Tag(framed...)
}

func four(n int) []byte {
	return []byte{byte(n >> 24), byte(n >> 16), byte(n >> 8), byte(n)}
}

func eight(n int) []byte {
	return append(four(int(uint64(n)>>32)), four(n)...)
}
