package token

import (
	"vigil/api"
	"vigil/claims"
)

// issued is the claims of the tokens that a mint issued, that of serial 1 first.
// They stand in an array, so that a mint that is copied goes its own way.
type issued struct {
	list [api.MaxTokens]claims.Claims
	used int
}

func (l *issued) full() bool {
	return l.used == len(l.list)
}

// next is the serial of the next token.
func (l *issued) next() int {
	return l.used + 1
}

// add keeps the claims of the next serial, while there is room.
func (l *issued) add(c claims.Claims) {
	l.list[l.used] = c
	l.used++
}

// of is the claims of a serial.
func (l *issued) of(serial int) (claims.Claims, api.Errno) {
	if serial < 1 || serial > l.used {
		return claims.Claims{}, api.ErrNone
	}
	return l.list[serial-1], api.OK
}
