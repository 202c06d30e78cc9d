// Package carrier is layer 1: names, ratios, samples, symbols with differential phases, pilots, notches, bits, seals and chains, telegrams in damaged streams, strings and streams. Its seals protect nothing. See shared/doc/01-carrier.md.
package carrier

import (
	"kilovar/api"
)

// Limits of powers, levels, phases, pilots, bytes, telegrams and frames.
const (
	MaxPower     = 1 << 34
	MaxLevel     = 16384
	MaxPhases    = 256
	MaxPilot     = 64
	MaxBytes     = 256
	MaxTelegrams = 512
	Size         = 32
	Mark         = 105
)

// Telegram is a payload of a station, with a counter and a kind.
type Telegram struct {
	Station int
	Counter int
	Kind    int
	Payload api.Block
}
