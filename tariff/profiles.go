package tariff

import (
	"iter"
	"slices"

	"kilovar/api"
	"kilovar/common"
)

// interval is the first tick of an interval of a profile, and its energy.
type interval struct {
	tick   int
	energy int
}

// intervals visits the intervals of a profile.
func (p Profile) intervals() iter.Seq[interval] {
	return func(yield func(x interval) bool) {
		for i := range len(p.Energies) {
			if !yield(interval{tick: p.Start + i*p.Step, energy: p.Energies[i]}) {
				return
			}
		}
	}
}

// end returns the tick behind the last interval.
func (p Profile) end() int {
	return p.Start + len(p.Energies)*p.Step
}

// known returns the known energy, and how many intervals are missing.
func (p Profile) known() (int, int) {
	sum, missing := 0, 0
	for x := range p.intervals() {
		if x.energy == Missing {
			missing++
			continue
		}
		sum += x.energy
	}
	return sum, missing
}

// Known returns the known energy of a profile, and how many intervals are missing.
func Known(p Profile) (int, int, api.Errno) {
	if e := CheckProfile(p); e != api.OK {
		return 0, 0, e
	}
	sum, missing := p.known()
	return sum, missing, api.OK
}

// Split returns both parts of a profile.
func Split(p Profile, at int) (Profile, Profile, api.Errno) {
	if e := common.First(CheckProfile(p), common.Within(at, 0, len(p.Energies))); e != api.OK {
		return Profile{}, Profile{}, e
	}
	first := Profile{Start: p.Start, Step: p.Step, Energies: slices.Clone(p.Energies[:at])}
	return first, Profile{Start: first.end(), Step: p.Step, Energies: slices.Clone(p.Energies[at:])}, api.OK
}

// Joined returns two profiles, one after the other, as one.
func Joined(p, q Profile) (Profile, api.Errno) {
	e := common.First(
		CheckProfile(p),
		CheckProfile(q),
		common.FailIf(q.Step != p.Step, api.ErrShape),
		common.FailIf(q.Start != p.end(), api.ErrOrder),
		common.FailIf(len(p.Energies)+len(q.Energies) > MaxIntervals, api.ErrMany),
	)
	if e != api.OK {
		return Profile{}, e
	}
	return Profile{Start: p.Start, Step: p.Step, Energies: slices.Concat(p.Energies, q.Energies)}, api.OK
}

// Estimated returns a profile without missing intervals, with a total.
func Estimated(p Profile, total int) (Profile, api.Errno) {
	known, missing := p.known()
	rest := total - known
	e := common.First(
		CheckProfile(p),
		common.Within(total, 0, MaxIntervals*MaxEnergy),
		common.FailIf(rest < 0 || rest > 0 && missing == 0, api.ErrConflict),
		common.FailIf(rest > missing*MaxEnergy, api.ErrLarge), // then the first estimate, the greatest one, is too large
	)
	if e != api.OK {
		return Profile{}, e
	}
	out := Profile{Start: p.Start, Step: p.Step, Energies: slices.Clone(p.Energies)}
	for i, energy := range out.Energies {
		if energy == Missing {
			share := (rest + missing - 1) / missing // rounded up: so the first ones get what is left by rounding down
			out.Energies[i] = share
			rest -= share
			missing--
		}
	}
	return out, api.OK
}
