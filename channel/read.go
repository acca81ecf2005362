package channel

import (
	"vigil/api"
	"vigil/packet"
	"vigil/revoke"
)

// look is how a packet is looked at, and its nonce taken if nothing is wrong with it.
type look func(c *Channel, p packet.Packet, tick int, revoked *revoke.Set) api.Errno

// looks are the ways', by their numbers; at 0, which is none, as of what nobody takes.
func looks() [Side + 1]look {
	return [...]look{0: (*Channel).up, Up: (*Channel).up, Down: (*Channel).down, Side: (*Channel).side}
}

// Read is the packet of these bytes, if it is taken at the tick. What isn't is a drop, and
// changes nothing else: so its nonce is only taken where all else was looked at.
func (c *Channel) Read(b []byte, tick int, revoked *revoke.Set) (packet.Packet, api.Errno) {
	if !c.made() {
		return packet.Packet{}, api.ErrState
	}
	p, e := packet.Parse(b)
	if e == api.OK {
		e = looks()[Way(p.Kind)](c, p, tick, revoked)
	}
	if e != api.OK {
		c.drops.Count(e)
		return packet.Packet{}, e
	}
	return p, api.OK
}

// up is for seeds alone.
func (c *Channel) up(packet.Packet, int, *revoke.Set) api.Errno {
	return api.ErrKind
}

// down is from the seed that is its place. A Cookie has no tag, so that anybody may have
// written its nonce: to take it would let him spoil the seed's window.
func (c *Channel) down(p packet.Packet, _ int, _ *revoke.Set) api.Errno {
	key, e := c.ring.Seed(p.To)
	switch {
	case p.From != c.own(), e != api.OK:
		return api.ErrArg
	case packet.Plain(p.Kind):
		return api.OK
	case !p.Holds(key):
		return api.ErrTag
	}
	return c.windows[p.To].Take(p.Nonce)
}

// side is from another member, whose key a seed granted.
func (c *Channel) side(p packet.Packet, tick int, revoked *revoke.Set) api.Errno {
	own := c.own().Id
	switch {
	case p.To != own, p.From.Id == own:
		return api.ErrArg
	case p.From.Expired(tick), revoked.Has(p.From.Serial):
		return api.ErrGone
	}
	key, e := c.book.Key(p.From)
	if e != api.OK {
		return e
	}
	if !p.Holds(key) {
		return api.ErrTag
	}
	return c.book.Take(p.From, p.Nonce)
}
