package channel

import (
	"slices"

	"vigil/api"
	"vigil/claims"
	"vigil/mac"
	"vigil/seal"
	"vigil/window"
)

// How many bytes a sender's key has, and a grant's body in all.
const (
	keySize   = 32
	grantSize = claims.Size + keySize + api.TagSize
)

// Grant is the body of a grant of the sender's key k, that only who has the other key
// reads. As the nonce is the packet's, it is another one for each grant; as the claims are
// bound, the key can't be told as another sender's.
func Grant(key *mac.Key, n window.Nonce, sender claims.Claims, k *mac.Key) ([]byte, api.Errno) {
	if key == nil {
		return nil, api.ErrArg
	}
	whose, e := claims.Bytes(sender)
	if e != api.OK {
		return nil, e
	}
	nonce, e := window.Bytes(n)
	if e != api.OK {
		return nil, e
	}
	granted := k.Bytes()
	if len(granted) != keySize {
		return nil, api.ErrForm
	}
	sealed, e := seal.Seal(key, nonce, whose, granted)
	if e != api.OK {
		return nil, e
	}
	return slices.Concat(whose, sealed), api.OK
}

// Granted is whose key a grant's body grants, and the key.
func Granted(key *mac.Key, n window.Nonce, body []byte) (claims.Claims, *mac.Key, api.Errno) {
	if key == nil {
		return claims.Claims{}, nil, api.ErrArg
	}
	sender, e := senderOf(body)
	if e != api.OK {
		return claims.Claims{}, nil, e
	}
	nonce, e := window.Bytes(n)
	if e != api.OK {
		return claims.Claims{}, nil, e
	}
	k, e := seal.Open(key, nonce, body[:claims.Size], body[claims.Size:])
	if e != api.OK {
		return claims.Claims{}, nil, e
	}
	return sender, mac.New(k), api.OK
}

// senderOf is the claims ahead in a grant's body of the right length.
func senderOf(body []byte) (claims.Claims, api.Errno) {
	switch {
	case len(body) < grantSize:
		return claims.Claims{}, api.ErrEnd
	case len(body) > grantSize:
		return claims.Claims{}, api.ErrForm
	}
	return claims.Parse(body[:claims.Size])
}
