package packet

// The kinds.
const (
	Hello = 1 + iota
	Cookie
	Join
	Admit
	Want
	Grant
	Ping
	Ack
	Request
	Sync
	Delta
	Attest
	Meta
	Leave
)

// words are the kinds', by their numbers; at 0, which is none, there is none.
var words = [Leave + 1]string{
	"", "hello", "cookie", "join", "admit", "want", "grant", "ping",
	"ack", "request", "sync", "delta", "attest", "meta", "leave",
}

// Plain is whether packets of the kind have no tag, as who writes them has no key yet that
// the other one knows.
func Plain(kind int) bool {
	return kind == Hello || kind == Cookie
}

// Seeds is whether packets of the kind are from a seed, or for one.
func Seeds(kind int) bool {
	switch kind {
	case Delta, Attest, Leave:
		return true
	}
	return kind >= Hello && kind <= Grant
}

// Word is the kind's.
func Word(kind int) string {
	if !isKind(kind) {
		return ""
	}
	return words[kind]
}

// Kinds is how many of these are of each kind, by its number; at 0 of how many the kind is
// none.
func Kinds(l ...Packet) [15]int {
	var counts [Leave + 1]int
	for _, p := range l {
		if isKind(p.Kind) {
			counts[p.Kind]++
		} else {
			counts[0]++
		}
	}
	return counts
}

func isKind(n int) bool {
	return n >= Hello && n <= Leave
}
