package meter

import (
	"kilovar/api"
	"kilovar/carrier"
	"kilovar/common"
)

// leastEvery is the fewest ticks of a step of a slew: with a step in each tick a clock that is slewed back would stand still.
const leastEvery = 2

// leastLength is the least length of an interval: a clock that is slewed ahead passes at most so many ticks in one.
const leastLength = 2

// checkFour returns the error of the samples of a cycle, or OK.
func checkFour(l [cycle]float32) api.Errno {
	return common.Each(l[:], carrier.CheckSample)
}

func checkRegister(r Register) api.Errno {
	return common.First(common.Within(r.Units, 0, MaxUnits-1), common.Within(r.Rest, 0, Quantum-1))
}

// CheckMeter returns the first error of a meter, or OK.
func CheckMeter(m Meter) api.Errno {
	return common.Each(m[:], checkRegister)
}

// CheckEntry returns the first error of an entry, or OK: as all of them are the same one, it is enough that no number must be moved into its range.
func CheckEntry(e Entry) api.Errno {
	return common.FailIf(e != e.clamped(), api.ErrRange)
}

// checkEntries returns the error of entries that need not follow each other, or OK.
func checkEntries(l []Entry) api.Errno {
	return common.AtMost(l, MaxRoom, CheckEntry)
}

// CheckProfile returns the first error of a profile, or OK.
func CheckProfile(p Profile) api.Errno {
	e := common.First(common.Within(p.Room, 1, MaxRoom), common.FailIf(len(p.Entries) > p.Room, api.ErrMany))
	if e != api.OK {
		return e
	}
	for i, x := range p.Entries {
		if e := common.First(CheckEntry(x), checkNext(p.Entries[:i], x)); e != api.OK {
			return e
		}
	}
	return api.OK
}

// checkNext returns ErrOrder if an entry cannot be the next one behind others, or OK. Behind none each entry can.
func checkNext(l []Entry, e Entry) api.Errno {
	if len(l) == 0 {
		return api.OK
	}
	last := l[len(l)-1]
	return common.FailIf(e.Number != last.Number+1 || e.Tick <= last.Tick, api.ErrOrder)
}

// CheckClock returns the first error of a clock, or OK.
func CheckClock(c Clock) api.Errno {
	return common.First(
		checkTick(c.Since),
		checkOffset(c.Offset, api.ErrRange),
		checkSlew(c.Left),
		checkEvery(c.Every),
	)
}

func checkTick(tick int) api.Errno {
	return common.Within(tick, 0, api.MaxTick)
}

// checkOffset returns an error if an offset is not in its range, or OK: which one depends on whether it is given, or comes about.
func checkOffset(offset int, e api.Errno) api.Errno {
	return common.FailIf(offset < -MaxOffset || offset > MaxOffset, e)
}

func checkSlew(by int) api.Errno {
	return common.Within(by, -MaxLeft, MaxLeft)
}

func checkEvery(every int) api.Errno {
	return common.Within(every, leastEvery, MaxEvery)
}

// checkSince returns the error of a tick at which a clock is read, or OK.
func checkSince(c Clock, tick int) api.Errno {
	return common.First(checkTick(tick), common.FailIf(tick < c.Since, api.ErrOrder))
}

// checkSpan returns ErrSpan if a span is none, or OK.
func checkSpan(s api.Span) api.Errno {
	return common.FailIf(s.From < 0 || s.From > s.To, api.ErrSpan)
}

// checkTicks returns the error of a span of ticks, or OK.
func checkTicks(s api.Span) api.Errno {
	return common.First(
		checkSpan(s),
		common.FailIf(s.To > api.MaxTick, api.ErrSpan),
		common.FailIf(s.To-s.From > api.MaxSamples, api.ErrMany),
	)
}
