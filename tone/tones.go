package tone

import (
	"slices"

	"kilovar/api"
	"kilovar/common"
)

// CheckTones returns the first error of tones, or OK.
func CheckTones(t Tones) api.Errno {
	return common.First(
		common.Some(t.Signal, MaxCarriers, common.In(0, MaxSignal)),
		common.Some(t.Noise, MaxParts, func(part []int) api.Errno { return checkPart(part, len(t.Signal)) }),
		common.Within(t.Margin, 1, MaxMargin),
		common.Within(t.Mask, 1, MaxMask),
		common.Each(t.Notches, common.Ascending(len(t.Signal))),
	)
}

func checkPart(noise []int, carriers int) api.Errno {
	if len(noise) != carriers {
		return api.ErrShape
	}
	return common.Each(noise, common.In(1, MaxNoise))
}

// checkPartOf returns the first error of tones and of a part of them, or OK.
func checkPartOf(t Tones, part int) api.Errno {
	return common.First(CheckTones(t), common.Index(part, len(t.Noise)))
}

// Power returns the least power that carries some bits.
func Power(t Tones, part, carrier, bits int) (int, api.Errno) {
	e := common.First(checkPartOf(t, part), common.Index(carrier, len(t.Signal)), common.Within(bits, 0, MaxBits))
	if e != api.OK {
		return 0, e
	}
	if t.Signal[carrier] == 0 && bits > 0 {
		return 0, api.ErrNone
	}
	return powerOf(t, part, carrier, bits), api.OK
}

// powerOf returns the least power that carries some bits on a carrier; without a signal there is one of no bits alone.
func powerOf(t Tones, part, carrier, bits int) int {
	if bits == 0 {
		return 0
	}
	needed, signal := t.Margin*(1<<bits-1)*t.Noise[part][carrier], t.Signal[carrier]
	return (needed + signal - 1) / signal
}

// powersOf returns the powers of all numbers of bits that a carrier carries in a part, from that of 0 bits on.
func powersOf(t Tones, part, carrier int) []int {
	out := []int{0}
	if t.Signal[carrier] == 0 || slices.Contains(t.Notches, carrier) {
		return out
	}
	for bits := 1; bits <= MaxBits; bits++ {
		p := powerOf(t, part, carrier, bits)
		if p > t.Mask {
			break // more bits never take less power
		}
		out = append(out, p)
	}
	return out
}

// allPowers returns the powers of each carrier in a part.
func allPowers(t Tones, part int) [][]int {
	var out [][]int
	for carrier := range len(t.Signal) {
		out = append(out, powersOf(t, part, carrier))
	}
	return out
}

// Carries returns the most bits of each carrier in a part of the cycle.
func Carries(t Tones, part int) ([]int, api.Errno) {
	if e := checkPartOf(t, part); e != api.OK {
		return nil, e
	}
	return carries(t, part), api.OK
}

func carries(t Tones, part int) []int {
	return common.Mapped(allPowers(t, part), func(powers []int) int { return len(powers) - 1 })
}

// Robust returns the most bits of each carrier in all parts of the cycle.
func Robust(t Tones) ([]int, api.Errno) {
	if e := CheckTones(t); e != api.OK {
		return nil, e
	}
	out := carries(t, 0)
	for part := range t.Noise {
		for carrier, bits := range carries(t, part) {
			out[carrier] = min(out[carrier], bits)
		}
	}
	return out, api.OK
}
