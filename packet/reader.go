package packet

import (
	"vigil/claims"
	"vigil/window"
	"vigil/wire"
)

// reader is one of packets: beside fields it reads what is made of them.
type reader struct{ *wire.Reader }

// packet is what the next fields are. A part of it that isn't right is the zero one, which
// isn't right either, so that Check tells it as well. Whether all fields were there, the
// reader's error tells.
func (r reader) packet() Packet {
	p := Packet{Kind: r.Number(wire.One)}
	p.From, _ = claims.Read(r.Reader)
	p.To = r.Number(wire.Two)
	p.Nonce, _ = window.Read(r.Reader)
	p.Body = r.Bytes(Longest)
	p.Tag = r.tag()
	return p
}

// tag has no length ahead, as it always has the same.
func (r reader) tag() [32]byte {
	var tag [32]byte
	for i := range tag {
		tag[i] = byte(r.Number(wire.One))
	}
	return tag
}
