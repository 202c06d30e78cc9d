package meter

import (
	"kilovar/api"
	"kilovar/common"
)

// time returns the time of a clock that has no error at a tick that is not before Since.
func (c Clock) time(tick int) int {
	steps := (tick - c.Since) / c.Every
	return tick + c.Offset + min(max(c.Left, -steps), steps)
}

// interval returns the interval of some length in which a clock is at a tick. A clock may be behind the time 0.
func (c Clock) interval(tick, length int) int {
	time := c.time(tick)
	if time%length < 0 {
		return time/length - 1
	}
	return time / length
}

// Time returns the time of a clock at a tick.
func Time(c Clock, tick int) (int, api.Errno) {
	if e := common.First(CheckClock(c), checkSince(c, tick)); e != api.OK {
		return 0, e
	}
	return c.time(tick), api.OK
}

// Set returns a clock that is set at a tick, and by how much it jumps.
func Set(c Clock, tick, time int) (Clock, int, api.Errno) {
	e := common.First(
		CheckClock(c),
		checkSince(c, tick),
		common.Within(time, 0, 2*api.MaxTick),
		checkOffset(time-tick, api.ErrLarge),
	)
	if e != api.OK {
		return Clock{}, 0, e
	}
	return Clock{Since: tick, Offset: time - tick, Every: c.Every}, time - c.time(tick), api.OK
}

// Slewed returns a clock that is slewed from a tick on.
func Slewed(c Clock, tick, by, every int) (Clock, api.Errno) {
	e := common.First(CheckClock(c), checkSince(c, tick), checkSlew(by), checkEvery(every))
	if e != api.OK {
		return Clock{}, e
	}
	offset := c.time(tick) - tick
	if e := checkOffset(offset, api.ErrLarge); e != api.OK {
		return Clock{}, e
	}
	return Clock{Since: tick, Offset: offset, Left: by, Every: every}, api.OK
}

// Boundaries returns the ticks at which an interval of a clock begins.
func Boundaries(c Clock, ticks api.Span, length int) ([]int, api.Errno) {
	e := common.First(CheckClock(c), checkTicks(ticks), common.Within(length, leastLength, MaxLength))
	if e != api.OK {
		return nil, e
	}
	var out []int
	for i := range ticks.To - ticks.From {
		tick := ticks.From + i
		if tick > c.Since && c.interval(tick, length) > c.interval(tick-1, length) {
			out = append(out, tick)
		}
	}
	return out, api.OK
}
