package revoke

import (
	"slices"

	"vigil/api"
)

const (
	mostLog    = 256
	mostSerial = 1<<16 - 1
)

func isSeed(seed int) bool {
	return seed >= 0 && seed < api.MaxSeeds
}

// allSerials is whether each of these may be a serial.
func allSerials(l []int) bool {
	return !slices.ContainsFunc(l, func(serial int) bool { return serial < 1 || serial > mostSerial })
}

// hasTwice is whether a serial stands in the log more than once.
func hasTwice(log []int) bool {
	seen := map[int]struct{}{}
	return slices.ContainsFunc(log, func(serial int) bool {
		_, twice := seen[serial]
		seen[serial] = struct{}{}
		return twice
	})
}

// longer is the log with more behind it. The log is cut where it ends, so that it has
// no room for them: they go into memory of their own, and who else has the log doesn't
// see them.
func longer(log, more []int) []int {
	return append(log[:len(log):len(log)], more...)
}

// joined is the log as long as it and a delta's are together, that begins at a version
// which the log has; false, if what both have isn't the same, or if a serial would
// stand in it twice.
func joined(log []int, from int, l []int) ([]int, bool) {
	both := min(len(log)-from, len(l))
	if !slices.Equal(log[from:from+both], l[:both]) {
		return nil, false
	}
	log = longer(log, l[both:])
	return log, !hasTwice(log)
}
