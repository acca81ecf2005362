package window

import (
	"vigil/api"
	"vigil/wire"
)

const (
	mostBoot    = 1<<16 - 1
	mostCounter = 1<<31 - 1
)

// Nonce is a boot and a counter.
type Nonce struct{ Boot, Counter int }

// Check is whether both are within their limits.
func Check(n Nonce) api.Errno {
	if !isBoot(n.Boot) || n.Counter < 1 || n.Counter > mostCounter {
		return api.ErrRange
	}
	return api.OK
}

// Less is whether a is ahead of b: by boot, then by counter.
func Less(a, b Nonce) bool {
	if a.Boot != b.Boot {
		return a.Boot < b.Boot
	}
	return a.Counter < b.Counter
}

// Bytes is the bytes of a nonce that is right.
func Bytes(n Nonce) ([]byte, api.Errno) {
	if e := Check(n); e != api.OK {
		return nil, e
	}
	var w wire.Writer
	return w.Number(wire.Two, n.Boot).Number(wire.Four, n.Counter).Out()
}

// Read is the nonce that the reader's next fields are. Fields that are there are behind
// it, whether they are right ones or not.
func Read(r *wire.Reader) (Nonce, api.Errno) {
	n := Nonce{Boot: r.Number(wire.Two), Counter: r.Number(wire.Four)}
	if e := r.Err(); e != api.OK {
		return Nonce{}, e
	}
	if Check(n) != api.OK {
		return Nonce{}, api.ErrForm
	}
	return n, api.OK
}

// Counter tells nonces of one boot, of which each is greater than the one before. The
// zero Counter, which Start never answers, has no boot, and tells none.
type Counter struct{ last Nonce }

// Start is a counter of the boot, that told none yet.
func Start(boot int) (*Counter, api.Errno) {
	if !isBoot(boot) {
		return nil, api.ErrRange
	}
	return &Counter{Nonce{Boot: boot}}, api.OK
}

// Next is the next nonce. Behind the greatest there is none, as it doesn't begin anew:
// what it told would be told twice.
func (c *Counter) Next() (Nonce, api.Errno) {
	switch {
	case c == nil, !isBoot(c.last.Boot):
		return Nonce{}, api.ErrState
	case c.last.Counter >= mostCounter:
		return Nonce{}, api.ErrFull
	}
	c.last.Counter++
	return c.last, api.OK
}

// Boot is that of its nonces.
func (c *Counter) Boot() int {
	if c == nil {
		return 0
	}
	return c.last.Boot
}

func isBoot(n int) bool {
	return n >= 1 && n <= mostBoot
}
