package revoke

// fullest is the versions of a set that takes nothing more.
var fullest = Versions{mostLog, mostLog, mostLog, mostLog}

// Covers is whether none of a's is below b's.
func Covers(a, b Versions) bool {
	return Join(a, b) == a
}

// Join is of each the greater.
func Join(a, b Versions) Versions {
	for seed, n := range b {
		a[seed] = max(a[seed], n)
	}
	return a
}

// sum is how many serials the logs have together.
func sum(v Versions) int {
	all := 0
	for _, n := range v {
		all += n
	}
	return all
}
