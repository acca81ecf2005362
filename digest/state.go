package digest

import "math/bits"

const blockSize = 64

// table is of the fractions' first 32 bits of the cube roots of the first 64
// primes.
var table = [64]uint32{
	0x428a2f98, 0x71374491, 0xb5c0fbcf, 0xe9b5dba5, 0x3956c25b, 0x59f111f1, 0x923f82a4, 0xab1c5ed5,
	0xd807aa98, 0x12835b01, 0x243185be, 0x550c7dc3, 0x72be5d74, 0x80deb1fe, 0x9bdc06a7, 0xc19bf174,
	0xe49b69c1, 0xefbe4786, 0x0fc19dc6, 0x240ca1cc, 0x2de92c6f, 0x4a7484aa, 0x5cb0a9dc, 0x76f988da,
	0x983e5152, 0xa831c66d, 0xb00327c8, 0xbf597fc7, 0xc6e00bf3, 0xd5a79147, 0x06ca6351, 0x14292967,
	0x27b70a85, 0x2e1b2138, 0x4d2c6dfc, 0x53380d13, 0x650a7354, 0x766a0abb, 0x81c2c92e, 0x92722c85,
	0xa2bfe8a1, 0xa81a664b, 0xc24b8b70, 0xc76c51a3, 0xd192e819, 0xd6990624, 0xf40e3585, 0x106aa070,
	0x19a4c116, 0x1e376c08, 0x2748774c, 0x34b0bcb5, 0x391c0cb3, 0x4ed8aa4a, 0x5b9cca4f, 0x682e6ff3,
	0x748f82ee, 0x78a5636f, 0x84c87814, 0x8cc70208, 0x90befffa, 0xa4506ceb, 0xbef9a3f7, 0xc67178f2,
}

// state is what a digest keeps of its bytes: the words behind the whole
// blocks, and the bytes behind these, which aren't a block yet.
type state struct {
	words [8]uint32
	rest  [blockSize]byte
	told  uint64
}

// take mixes in every block that the part makes whole, and keeps a copy of
// the bytes behind it.
func (s *state) take(part []byte) {
	for len(part) > 0 {
		held := int(s.told % blockSize)
		n := copy(s.rest[held:], part)
		if held+n == blockSize {
			s.words = mixed(s.now(), s.rest)
		}
		s.told += uint64(n)
		part = part[n:]
	}
}

// now is the words so far: words is filled only from the first whole block on, so
// that a zero state may be used.
func (s *state) now() [8]uint32 {
	if s.told < blockSize {
		return firstWords()
	}
	return s.words
}

// end has a state of its own, so that the one that is asked may be told more
// behind this.
func (s state) end() [32]byte {
	s.take(padding(s.told))
	var out [32]byte
	for i, w := range s.words {
		put32(out[4*i:], w)
	}
	return out
}

// padding makes a whole number of blocks of so many bytes.
func padding(told uint64) []byte {
	zeros := (2*blockSize - 9 - told%blockSize) % blockSize
	pad := make([]byte, 1+zeros+8)
	pad[0] = 128
	count := pad[1+zeros:]
	put32(count, uint32(told*8>>32))
	put32(count[4:], uint32(told*8))
	return pad
}

// firstWords is of the fractions' first 32 bits of the square roots of the
// first eight primes.
func firstWords() [8]uint32 {
	return [8]uint32{
		0x6a09e667, 0xbb67ae85, 0x3c6ef372, 0xa54ff53a,
		0x510e527f, 0x9b05688c, 0x1f83d9ab, 0x5be0cd19,
	}
}

// mixed is the words behind one more block.
func mixed(words [8]uint32, block [blockSize]byte) [8]uint32 {
	turn := func(x uint32, by, and, last int) uint32 {
		return bits.RotateLeft32(x, -by) ^ bits.RotateLeft32(x, -and) ^ bits.RotateLeft32(x, -last)
	}
	a, b, c, d := words[0], words[1], words[2], words[3]
	e, f, g, h := words[4], words[5], words[6], words[7]
	for i, x := range spread(block) {
		low := h + x + table[i] + turn(e, 6, 11, 25) + (e&f ^ ^e&g)
		high := turn(a, 2, 13, 22) + (a&b ^ a&c ^ b&c)
		a, b, c, d, e, f, g, h = low+high, a, b, c, d+low, e, f, g
	}
	for i, x := range [8]uint32{a, b, c, d, e, f, g, h} {
		words[i] += x
	}
	return words
}

// spread is a block's sixteen words, and the 48 that are made of them.
func spread(block [blockSize]byte) [64]uint32 {
	var w [64]uint32
	for i := range 16 {
		w[i] = get32(block[4*i:])
	}
	for i := 16; i < 64; i++ {
		w[i] = w[i-16] + sigma(w[i-15], 7, 18, 3) + w[i-7] + sigma(w[i-2], 17, 19, 10)
	}
	return w
}

// sigma is FIPS 180-4's small sigma: two turns of a word, and a shift.
func sigma(x uint32, by, and, shift int) uint32 {
	return bits.RotateLeft32(x, -by) ^ bits.RotateLeft32(x, -and) ^ x>>shift
}

// get32 is the word of the first four bytes.
func get32(b []byte) uint32 {
	return uint32(b[0])<<24 | uint32(b[1])<<16 | uint32(b[2])<<8 | uint32(b[3])
}

// put32 writes a word as the first four bytes.
func put32(b []byte, x uint32) {
	b[0], b[1], b[2], b[3] = byte(x>>24), byte(x>>16), byte(x>>8), byte(x)
}
