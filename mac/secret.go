package mac

import "vigil/digest"

const blockSize = 64

// secret is a key's bytes.
type secret []byte

func (s secret) copied() secret {
	return append(secret(nil), s...)
}

// blank is whether no byte is other than 0; it goes through all of them, as Equal
// does.
func (s secret) blank() bool {
	var gathered byte
	for _, x := range s {
		gathered |= x
	}
	return gathered == 0
}

// filled is a whole block of a key: of more bytes than that the digest stands for
// them.
func filled(key []byte) [blockSize]byte {
	var out [blockSize]byte
	if len(key) > blockSize {
		short := digest.Sum(key)
		key = short[:]
	}
	copy(out[:], key)
	return out
}

// turned is a block with these bits of each byte turned.
func turned(block [blockSize]byte, bits byte) []byte {
	for i := range block {
		block[i] ^= bits
	}
	return block[:]
}

// framed has each length ahead of its bytes, so that no two lists are the same
// bytes one behind the other.
func framed(label string, parts ...[]byte) [][]byte {
	out := make([][]byte, 0, 2+2*len(parts))
	out = append(out, length(len(label)), []byte(label))
	for _, part := range parts {
		out = append(out, length(len(part)), part)
	}
	return out
}

func length(n int) []byte {
	return []byte{byte(n >> 24), byte(n >> 16), byte(n >> 8), byte(n)}
}
