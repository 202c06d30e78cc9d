package meter

import (
	"iter"
	"maps"
	"math"
	"slices"

	"kilovar/api"
	"kilovar/carrier"
	"kilovar/common"
)

const (
	cycle       = 4                  // samples of a cycle
	resolution  = 16                 // the integer of a sample is so many times it
	mostOfAPart = 1 << 31            // the greatest absolute value of a part of a power
	whole       = MaxUnits * Quantum // the energy after which a register has come around
)

// The registers of the active energies; behind them are those of the quadrants, from 1 on.
const (
	importing = iota
	exporting
)

func integerOf(sample float32) int {
	return int(resolution * sample)
}

// powerOf returns the power of a cycle whose samples have no error.
func powerOf(v, i [cycle]float32) complex128 {
	active, reactive := 0, 0
	for n := range cycle {
		active += integerOf(v[n]) * integerOf(i[n])
		reactive += integerOf(v[(n+cycle-1)%cycle]) * integerOf(i[n])
	}
	return complex(float64(active), float64(reactive))
}

// quadrantOf returns the quadrant of a power that has no error.
func quadrantOf(power complex128) int {
	ahead, up := real(power) >= 0, imag(power) >= 0
	switch {
	case power == 0:
		return 0
	case ahead && up:
		return 1
	case up:
		return 2
	case ahead:
		return 4
	default:
		return 3
	}
}

// Power returns the power of a cycle of four samples: active, and reactive as the imaginary part.
func Power(v, i [4]float32) (complex128, api.Errno) {
	if e := common.First(checkFour(v), checkFour(i)); e != api.OK {
		return 0, e
	}
	return powerOf(v, i), api.OK
}

// Quadrant returns the quadrant of a power.
func Quadrant(power complex128) (int, api.Errno) {
	both := []float64{real(power), imag(power)}
	if e := common.First(common.Each(both, checkFinite), common.Each(both, checkPart)); e != api.OK {
		return 0, e
	}
	return quadrantOf(power), api.OK
}

func checkFinite(part float64) api.Errno {
	return common.FailIf(math.IsNaN(part) || math.IsInf(part, 0), api.ErrForm)
}

func checkPart(part float64) api.Errno {
	return common.FailIf(part != math.Trunc(part) || math.Abs(part) > mostOfAPart, api.ErrRange)
}

// cycles visits the cycles of voltage and current, of which there are as many samples.
func cycles(v, i []float32) iter.Seq2[[cycle]float32, [cycle]float32] {
	return func(yield func(v, i [cycle]float32) bool) {
		for at := 0; at < len(v); at += cycle {
			if !yield([cycle]float32(v[at:]), [cycle]float32(i[at:])) {
				return
			}
		}
	}
}

// counted returns a register that has counted an energy.
func (r Register) counted(energy int) Register {
	rest := r.Rest + energy
	return Register{Units: (r.Units + rest/Quantum) % MaxUnits, Rest: rest % Quantum}
}

// energy returns the energy of a register from 0 units on.
func (r Register) energy() int {
	return r.Units*Quantum + r.Rest
}

// since returns the energy that a register has counted since another reading, if it has not come around more than once.
func (r Register) since(before Register) int {
	return (r.energy() - before.energy() + whole) % whole
}

// counted returns a meter that has counted a cycle.
func (m Meter) counted(power complex128) Meter {
	active, reactive := int(real(power)), int(imag(power))
	m[importing] = m[importing].counted(max(active, 0))
	m[exporting] = m[exporting].counted(max(-active, 0))
	if reactive != 0 {
		at := exporting + quadrantOf(power)
		m[at] = m[at].counted(max(reactive, -reactive))
	}
	return m
}

// Counted returns a meter after samples of voltage and current.
func Counted(m Meter, v, i []float32) (Meter, api.Errno) {
	e := common.First(
		CheckMeter(m),
		carrier.CheckSamples(v),
		carrier.CheckSamples(i),
		common.FailIf(len(v) != len(i), api.ErrShape),
		common.FailIf(len(v)%cycle != 0, api.ErrShort),
	)
	if e != api.OK {
		return Meter{}, e
	}
	for v, i := range cycles(v, i) {
		m = m.counted(powerOf(v, i))
	}
	return m, api.OK
}

// Difference returns the energy that a register has counted between two readings.
func Difference(before, after Register) (int, api.Errno) {
	if e := common.First(checkRegister(before), checkRegister(after)); e != api.OK {
		return 0, e
	}
	return after.since(before), api.OK
}

// Implausible returns the registers that have counted more than they can.
func Implausible(before, after Meter, ticks, most int) ([]int, api.Errno) {
	e := common.First(
		CheckMeter(before),
		CheckMeter(after),
		common.Within(ticks, 1, api.MaxTick),
		common.Within(most, 1, MaxPower),
	)
	if e != api.OK {
		return nil, e
	}
	found := map[int]bool{}
	for i := range Registers {
		if after[i].since(before[i]) > ticks*most {
			found[i] = true
		}
	}
	return slices.Sorted(maps.Keys(found)), api.OK
}
