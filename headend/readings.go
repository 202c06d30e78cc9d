package headend

import (
	"cmp"
	"iter"
	"slices"

	"kilovar/api"
	"kilovar/common"
)

// The indices of the states of a reading.
const (
	open = iota
	done
	missing
	late
)

// states has the words of the states, in the order in which readings are counted.
var states = [4]string{"open", "done", "missing", "late"}

// is reports whether a reading has the state with an index.
func (r Reading) is(state int) bool {
	return r.State == states[state]
}

// hasCome reports whether a reading has come, in time or not.
func (r Reading) hasCome() bool {
	return r.is(done) || r.is(late)
}

func checkUnits(units int) api.Errno {
	return common.Within(units, 0, MaxUnits)
}

func (x act) refuseDue() api.Errno {
	return common.First(common.FailIf(x.Values[1] < x.tick(), api.ErrOver), full(x.Readings, MaxReadings))
}

func (x act) afterDue() Register {
	x.Readings = longer(x.Readings, Reading{Name: x.Names[0], Meter: x.Names[1], Deadline: x.Values[1], State: states[open]})
	return x.Register
}

func (x act) refuseTry() api.Errno {
	r := x.reading()
	return common.First(
		common.FailIf(r.hasCome(), api.ErrTwice),
		common.FailIf(found(x.Meters, r.Meter).Hops == 0, api.ErrNone),
		common.FailIf(r.Tries >= MaxTries, api.ErrMany),
	)
}

func (x act) afterTry() Register {
	return x.withReading(func(r *Reading) { r.Tries++ })
}

func (x act) refuseDone() api.Errno {
	r := x.reading()
	return common.First(
		common.FailIf(r.hasCome(), api.ErrTwice),
		common.FailIf(r.Tries == 0, api.ErrNone),
		checkUnits(x.Values[1]),
	)
}

func (x act) afterDone() Register {
	return x.withReading(func(r *Reading) {
		state := done
		if r.is(missing) {
			state = late
		}
		r.State, r.Units = states[state], x.Values[1]
	})
}

func (x act) refuseMiss() api.Errno {
	r := x.reading()
	return common.First(
		common.FailIf(!r.is(open), api.ErrTwice),
		common.FailIf(x.tick() <= r.Deadline, api.ErrOpen),
		checkUnits(x.Values[1]),
	)
}

func (x act) afterMiss() Register {
	return x.withReading(func(r *Reading) { r.State, r.Units = states[missing], x.Values[1] })
}

// in visits the readings that have the state with an index.
func (r Register) in(state int) iter.Seq[Reading] {
	return func(yield func(x Reading) bool) {
		for _, x := range r.Readings {
			if x.is(state) && !yield(x) {
				return
			}
		}
	}
}

// tally is how many readings have each state.
type tally [len(states)]int

func (r Register) tally() tally {
	var out tally
	for state := range states {
		for range r.in(state) {
			out[state]++
		}
	}
	return out
}

// Counts returns how many readings are open, done, missing and late.
func Counts(l []api.Event) ([4]int, api.Errno) {
	r, _, e := Replay(l)
	return r.tally(), e
}

// openOf returns the open readings that have a property.
func (r Register) openOf(has func(x Reading) bool) []Reading {
	if r.tally() == (tally{}) { // nothing was ever due
		return nil
	}
	var out []Reading
	for x := range r.in(open) {
		if has(x) {
			out = append(out, x)
		}
	}
	return out
}

// asked returns the register after events, for a question about a tick.
func asked(l []api.Event, tick int) (Register, api.Errno) {
	r, _, e := Replay(l)
	if e = common.First(e, checkTick(tick)); e != api.OK {
		return Register{}, e
	}
	return r, api.OK
}

// Due returns the names of the open readings that can still be in time, by their deadlines.
func Due(l []api.Event, tick int) ([]string, api.Errno) {
	r, e := asked(l, tick)
	due := r.openOf(func(x Reading) bool { return x.Deadline >= tick })
	slices.SortStableFunc(due, func(x, y Reading) int { return cmp.Compare(x.Deadline, y.Deadline) })
	return common.Mapped(due, Reading.name), e
}

// Unnamed returns the names of the open readings whose deadline is over.
func Unnamed(l []api.Event, tick int) ([]string, api.Errno) {
	r, e := asked(l, tick)
	over := r.openOf(func(x Reading) bool { return x.Deadline < tick })
	return common.Mapped(over, Reading.name), e
}
