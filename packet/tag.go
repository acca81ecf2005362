package packet

import (
	"bytes"

	"vigil/api"
	"vigil/mac"
)

// Tagged is the packet with its tag under the key, whatever its tag was.
func (p Packet) Tagged(key *mac.Key) (Packet, api.Errno) {
	switch {
	case key == nil:
		return Packet{}, api.ErrArg
	case Plain(p.Kind):
		return Packet{}, api.ErrState
	}
	head, e := Head(p)
	if e != api.OK {
		return Packet{}, e
	}
	p.Body, p.Tag = bytes.Clone(p.Body), key.Tag(head)
	return p, api.OK
}

// Holds is whether its tag is that under the key. The tags are held against each other by
// mac, which doesn't leave off at the first byte that isn't right.
func (p Packet) Holds(key *mac.Key) bool {
	right, e := p.Tagged(key)
	return e == api.OK && mac.Equal(right.Tag[:], p.Tag[:])
}
