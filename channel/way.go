package channel

import "vigil/packet"

// The ways of kinds: from a member to a seed, from a seed to a member, and between members.
const (
	Up = 1 + iota
	Down
	Side
)

// Way is the kind's; 0 of none.
func Way(kind int) int {
	switch kind {
	case packet.Hello, packet.Join, packet.Want, packet.Delta, packet.Leave:
		return Up
	case packet.Cookie, packet.Admit, packet.Grant, packet.Attest:
		return Down
	case packet.Ping, packet.Ack, packet.Request, packet.Sync, packet.Meta:
		return Side
	}
	return 0
}
