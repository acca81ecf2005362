package cache

import (
	"vigil/mac"
	"vigil/window"
)

// entry is one that is wanted while it has no key, and known from then on. When it was
// asked for is only kept till then, and its window only used from then on.
type entry struct {
	window.Window
	key   *mac.Key
	asked int
}

func (e *entry) wanted() bool {
	return e.key == nil
}

// due is whether it is to be asked for again. How far the ticks are from one another is
// told without a sign, as between ticks far outside their limits it has no room with one.
func (e *entry) due(tick int) bool {
	return e.wanted() && tick > e.asked && uint(tick-e.asked) >= Retry
}

// copied is a key of its own: who has the one can't change the other.
func copied(key *mac.Key) *mac.Key {
	return mac.New(key.Bytes())
}
