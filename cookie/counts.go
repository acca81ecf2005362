package cookie

import (
	"math"
	"sync/atomic"
)

// counts are atomic, so that several may ask one baker at once, and none is lost.
type counts struct {
	baked, stale atomic.Int64
}

// told is the count, which stays at 2^31-1. The number behind it goes on: it has so many
// bits that it never comes round, and nobody waits for another one to count.
func told(count *atomic.Int64) int {
	return int(min(count.Load(), math.MaxInt32))
}
