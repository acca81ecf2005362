package quota

import (
	"maps"
	"slices"

	"vigil/api"
)

const (
	mostTimes  = 255
	mostSender = 1<<16 - 1
)

// Quotas let each sender be taken so many times a period. The zero Quotas, which New
// never answers, let nobody be taken.
type Quotas struct {
	times int
	known map[int]taking
}

// taking is the last period in which a sender was taken, and how many times it was: of
// those ahead of it nothing is asked any more.
type taking struct {
	period, times int
}

// New is quotas of so many times a period, of no senders yet.
func New(times int) (*Quotas, api.Errno) {
	if times < 1 || times > mostTimes {
		return nil, api.ErrRange
	}
	return &Quotas{times: times, known: map[int]taking{}}, api.OK
}

// Take takes the sender once more, in the tick's period.
func (q *Quotas) Take(sender, tick int) api.Errno {
	if e := q.refuses(sender, tick); e != api.OK {
		return e
	}
	period := Period(tick)
	n := q.taken(sender, period)
	_, known := q.known[sender]
	switch {
	case n >= q.times:
		return api.ErrQuota
	case !known && len(q.known) >= api.MaxNodes:
		return api.ErrFull
	}
	q.known[sender] = taking{period, n + 1}
	return api.OK
}

// Left is how many times the sender may be taken still in the tick's period, if there is
// room for it.
func (q *Quotas) Left(sender, tick int) int {
	if q.refuses(sender, tick) != api.OK {
		return 0
	}
	return q.times - q.taken(sender, Period(tick))
}

// Drop forgets the senders, so that there is room for others, and tells how many were
// known.
func (q *Quotas) Drop(l ...int) int {
	if q == nil {
		return 0
	}
	before := len(q.known)
	for _, sender := range l {
		delete(q.known, sender)
	}
	return before - len(q.known)
}

// Senders is who is known, rising.
func (q *Quotas) Senders() []int {
	if q == nil {
		return nil
	}
	return slices.Sorted(maps.Keys(q.known))
}

// Times is how many times a period each sender may be taken.
func (q *Quotas) Times() int {
	if q == nil {
		return 0
	}
	return q.times
}

// refuses is why nobody's quota is asked for.
func (q *Quotas) refuses(sender, tick int) api.Errno {
	switch {
	case q == nil, q.known == nil:
		return api.ErrState
	case sender < 1, sender > mostSender, tick < 0:
		return api.ErrRange
	case q.known[sender].period > Period(tick):
		return api.ErrOld
	}
	return api.OK
}

// taken is how many times the sender was taken in the period, which isn't ahead of its
// last one.
func (q *Quotas) taken(sender, period int) int {
	last := q.known[sender]
	if last.period != period {
		return 0
	}
	return last.times
}
