package revoke

import (
	"slices"

	"vigil/api"
	"vigil/wire"
)

// Bytes is a delta's, if they are no more than a packet has.
func Bytes(d Delta) ([]byte, api.Errno) {
	if !within(d) {
		return nil, api.ErrRange
	}
	// Asked ahead of the writer, to whom a count of more than two bytes is no number.
	if size(d) > api.MaxPacket {
		return nil, api.ErrLong
	}
	var w wire.Writer
	for seed, log := range d.Logs {
		putLog(w.Number(wire.Two, d.From[seed]), log)
	}
	return w.Out()
}

// Parse is the delta that all of these bytes are. Whether a set takes it is another
// question: Apply tells.
func Parse(b []byte) (Delta, api.Errno) {
	var d Delta
	r := wire.New(b)
	for seed := range d.Logs {
		d.From[seed] = r.Number(wire.Two)
		d.Logs[seed] = getLog(r)
	}
	if e := r.End(); e != api.OK {
		return Delta{}, e
	}
	if !within(d) || slices.ContainsFunc(d.Logs[:], func(log []int) bool { return len(log) > mostLog }) {
		return Delta{}, api.ErrForm
	}
	return d, api.OK
}

// within is whether the delta's versions and serials are as they may be.
func within(d Delta) bool {
	for _, log := range d.Logs {
		if !allSerials(log) {
			return false
		}
	}
	return Covers(d.From, Versions{}) && Covers(fullest, d.From)
}

// size is how many bytes a delta has.
func size(d Delta) int {
	n := 0
	for _, log := range d.Logs {
		n += 4 + 2*len(log)
	}
	return n
}

// putLog puts how many serials the log has, and them.
func putLog(w *wire.Writer, log []int) *wire.Writer {
	return w.Number(wire.Two, len(log)).Number(wire.Two, log...)
}

// getLog gets what putLog put, as long as there is something to read.
func getLog(r *wire.Reader) []int {
	var log []int
	for n := r.Number(wire.Two); n > 0 && r.Err() == api.OK; n-- {
		log = append(log, r.Number(wire.Two))
	}
	return log
}
