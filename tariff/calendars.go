package tariff

import (
	"iter"
	"slices"

	"kilovar/api"
	"kilovar/common"
)

// none is the index of what there is not.
const none = -1

// latest returns the index of the last element that begins at a place or before it, or none; elements begin one after the other.
func latest[T any](l []T, begin func(T) int, place int) int {
	found := none
search:
	for i, x := range l {
		switch {
		case begin(x) > place: // and so do all behind it
			break search
		default:
			found = i
		}
	}
	return found
}

// switches returns the switches of a day. All of them are those of one type: there is a season for each day.
func (t Tariff) switches(day int) []Switch {
	season := latest(t.Seasons, func(s Season) int { return s.From }, day%Year)
	week := t.Seasons[season].Week
	return t.Types[week[day%len(week)]]
}

// rate returns the rate at a second of a day.
func (t Tariff) rate(day, second int) int {
	l := t.switches(day)
	return l[latest(l, func(s Switch) int { return s.At }, second)].Rate
}

// inForce returns the index of the version that is in force on a day, or none.
func (c Calendar) inForce(day int) int {
	return latest(c.Versions, func(v Version) int { return v.From }, day)
}

// rate returns the rate at a tick, and whether there is one.
func (c Calendar) rate(tick int) (Rate, bool) {
	day, second := tick/Day, tick%Day
	version := c.inForce(day)
	if version == none {
		return Rate{}, false
	}
	t := c.Versions[version].Tariff
	rate := t.rate(day, second)
	return Rate{Version: version, Rate: rate, Price: t.Prices[rate]}, true
}

// InForce returns the index of the version that is in force on a day.
func InForce(c Calendar, day int) (int, api.Errno) {
	if e := common.First(CheckCalendar(c), checkDay(day)); e != api.OK {
		return 0, e
	}
	version := c.inForce(day)
	if version == none {
		return 0, api.ErrNone
	}
	return version, api.OK
}

// RateAt returns the rate at a tick.
func RateAt(c Calendar, tick int) (Rate, api.Errno) {
	if e := common.First(CheckCalendar(c), checkTick(tick)); e != api.OK {
		return Rate{}, e
	}
	rate, found := c.rate(tick)
	return rate, common.FailIf(!found, api.ErrNone)
}

// switched visits the ticks after one and before another one at which there is a switch. The rate changes at no other tick: there is a switch at the beginning of each day.
func (c Calendar) switched(from, to int) iter.Seq[int] {
	return func(yield func(tick int) bool) {
		for day := from / Day; day*Day < to; day++ {
			version := c.inForce(day)
			if version == none {
				continue
			}
			for _, s := range c.Versions[version].Tariff.switches(day) {
				tick := day*Day + s.At
				if tick > from && tick < to && !yield(tick) {
					return
				}
			}
		}
	}
}

// changes reports whether the rate changes at a tick above 0.
func (c Calendar) changes(tick int) bool {
	rate, found := c.rate(tick)
	before, earlier := c.rate(tick - 1)
	return found && (!earlier || rate != before)
}

// Changes returns the ticks at which the rate changes.
func Changes(c Calendar, from, to int) ([]int, api.Errno) {
	if e := common.First(CheckCalendar(c), checkLook(from, to)); e != api.OK {
		return nil, e
	}
	var out []int
	for tick := range c.switched(from, to) {
		if c.changes(tick) {
			out = append(out, tick)
		}
	}
	if len(out) > api.MaxList { // not with these limits: a look lies in at most 9 days, of at most 12 switches each
		return nil, api.ErrMany
	}
	return out, api.OK
}

// copyOf returns the same tariff in new memory.
func copyOf(t Tariff) Tariff {
	return Tariff{
		Prices:  slices.Clone(t.Prices),
		Types:   common.Mapped(t.Types, func(l []Switch) []Switch { return slices.Clone(l) }),
		Seasons: slices.Clone(t.Seasons),
		Blocks:  slices.Clone(t.Blocks),
	}
}

// with returns a calendar in new memory with other versions.
func (c Calendar) with(versions ...Version) Calendar {
	return Calendar{
		Notice: c.Notice,
		Versions: common.Mapped(versions, func(v Version) Version {
			return Version{From: v.From, Announced: v.Announced, Tariff: copyOf(v.Tariff)}
		}),
	}
}

// Announced returns a calendar with a further version.
func Announced(c Calendar, today, from int, t Tariff) (Calendar, api.Errno) {
	v := Version{From: from, Announced: today, Tariff: t}
	e := common.First(
		CheckCalendar(c),
		checkToday(today),
		checkDay(from),
		CheckTariff(t),
		common.FailIf(len(c.Versions) == MaxVersions, api.ErrMany),
		checkNext(c, v),
	)
	if e != api.OK {
		return Calendar{}, e
	}
	return c.with(append(slices.Clone(c.Versions), v)...), api.OK
}

// Withdrawn returns a calendar without its last version.
func Withdrawn(c Calendar, today int) (Calendar, api.Errno) {
	e := common.First(CheckCalendar(c), checkToday(today), common.FailIf(len(c.Versions) == 1, api.ErrEmpty))
	if e != api.OK {
		return Calendar{}, e
	}
	last := len(c.Versions) - 1
	from := c.Versions[last].From
	if e := common.First(common.FailIf(from <= today, api.ErrOver), checkNotice(c, today, from)); e != api.OK {
		return Calendar{}, e
	}
	return c.with(c.Versions[:last]...), api.OK
}
