package channel

import (
	"vigil/api"
	"vigil/window"
)

// counter is a channel's. It is a type without the methods of window's own, which a nil
// channel would have no answer to, and by which others could use its nonces up.
type counter window.Counter

func (c *counter) next() (window.Nonce, api.Errno) {
	return (*window.Counter)(c).Next()
}

func (c *counter) boot() int {
	return (*window.Counter)(c).Boot()
}
