package keys

import (
	"maps"
	"slices"

	"vigil/api"
	"vigil/claims"
	"vigil/mac"
	"vigil/token"
)

// own is a ring's token. It is a type without the token's methods, as a nil ring
// would have nothing to answer them by.
type own token.Token

// Ring is a member's keys: its token, and what it was granted. The zero Ring, which
// New never answers, is that of the zero token.
type Ring struct {
	own
	senders map[claims.Claims]*mac.Key
	labels  [api.MaxLabels]*mac.Key
}

// New is the ring of a token whose claims are right, that was granted nothing yet.
func New(t token.Token) (*Ring, api.Errno) {
	if e := claims.Check(t.Claims); e != api.OK {
		return nil, e
	}
	return &Ring{own: own(t)}, api.OK
}

// Own is its token.
func (r *Ring) Own() token.Token {
	if r == nil {
		return token.Token{}
	}
	return token.Token(r.own)
}

// To is its own key for a verifier.
func (r *Ring) To(verifier int) (*mac.Key, api.Errno) {
	if r == nil {
		return nil, api.ErrState
	}
	return Sender(r.Own().Key(), verifier)
}

// Seed is its own key for a seed.
func (r *Ring) Seed(seed int) (*mac.Key, api.Errno) {
	if r == nil {
		return nil, api.ErrState
	}
	return Seed(r.Own().Key(), seed)
}

// Add is that it was granted a sender's key. Claims that are there keep the key that
// they have.
func (r *Ring) Add(sender claims.Claims, key *mac.Key) api.Errno {
	if r == nil {
		return api.ErrState
	}
	if e := claims.Check(sender); e != api.OK {
		return e
	}
	if key == nil {
		return api.ErrArg
	}
	if _, there := r.senders[sender]; there {
		return api.ErrTwice
	}
	if len(r.senders) >= api.MaxNodes {
		return api.ErrFull
	}
	r.keep(sender, key)
	return api.OK
}

// keep makes the map where there is none, so that the zero Ring can be added to.
func (r *Ring) keep(sender claims.Claims, key *mac.Key) {
	if r.senders == nil {
		r.senders = map[claims.Claims]*mac.Key{}
	}
	r.senders[sender] = copied(key)
}

// From is the key that it was granted of a sender.
func (r *Ring) From(sender claims.Claims) (*mac.Key, api.Errno) {
	if r == nil {
		return nil, api.ErrState
	}
	key, there := r.senders[sender]
	if !there {
		return nil, api.ErrNone
	}
	return copied(key), api.OK
}

// Drop is how many of these senders' keys were there, and aren't any more.
func (r *Ring) Drop(l ...claims.Claims) int {
	if r == nil {
		return 0
	}
	dropped := 0
dropping:
	for _, sender := range l {
		if _, there := r.senders[sender]; !there {
			continue dropping
		}
		delete(r.senders, sender)
		dropped++
	}
	return dropped
}

// Known is whose keys there are, the smaller claims first.
func (r *Ring) Known() []claims.Claims {
	if r == nil {
		return nil
	}
	return slices.SortedFunc(maps.Keys(r.senders), claims.Compare)
}

// Learn is that it was granted the key of one of its roles. Of a role that it knows
// already, the later key counts.
func (r *Ring) Learn(role int, key *mac.Key) api.Errno {
	if r == nil {
		return api.ErrState
	}
	if !isRole(role) {
		return api.ErrRange
	}
	if key == nil {
		return api.ErrArg
	}
	if !r.Claims.Has(role) {
		return api.ErrRole
	}
	r.labels[role] = copied(key)
	return api.OK
}

// Label is the key that it was granted of a role.
func (r *Ring) Label(role int) (*mac.Key, api.Errno) {
	if r == nil {
		return nil, api.ErrState
	}
	if !isRole(role) {
		return nil, api.ErrRange
	}
	if r.labels[role] == nil {
		return nil, api.ErrNone
	}
	return copied(r.labels[role]), api.OK
}

func isRole(role int) bool {
	return role >= 0 && role < api.MaxLabels
}

// copied is a key of its own: who has the one can't change the other.
func copied(key *mac.Key) *mac.Key {
	return mac.New(key.Bytes())
}
