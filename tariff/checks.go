package tariff

import (
	"kilovar/api"
	"kilovar/common"
)

// steps are the ticks that an interval may have. Each of them divides a day, so that no interval lies in two.
var steps = [3]int{900, 1800, 3600}

// CheckTariff returns the first error of a tariff, or OK.
func CheckTariff(t Tariff) api.Errno {
	return common.First(
		common.Some(t.Prices, MaxRates, checkPrice),
		common.Some(t.Types, MaxTypes, func(l []Switch) api.Errno { return checkSwitches(l, len(t.Prices)) }),
		checkSeasons(t.Seasons, len(t.Types)),
		checkBlocks(t.Blocks),
	)
}

func checkPrice(price int) api.Errno {
	return common.Within(price, 0, MaxPrice)
}

func checkSwitches(l []Switch, rates int) api.Errno {
	order := risingFromZero()
	return common.Some(l, MaxSwitches, func(s Switch) api.Errno {
		return common.First(common.Within(s.At, 0, Day-1), common.Index(s.Rate, rates), order(s.At))
	})
}

func checkSeasons(l []Season, types int) api.Errno {
	order := risingFromZero()
	return common.Some(l, MaxSeasons, func(s Season) api.Errno {
		return common.First(common.Within(s.From, 0, Year-1), checkWeek(s.Week, types), order(s.From))
	})
}

// checkWeek returns ErrUnknown if one of the types of a week is none, or OK: it is enough that no type must be moved to one that there is.
func checkWeek(week [7]int, types int) api.Errno {
	moved := week
	for i, x := range week {
		moved[i] = min(max(x, 0), types-1)
	}
	return common.FailIf(moved != week, api.ErrUnknown)
}

func checkBlocks(l []Block) api.Errno {
	order := common.Rising()
	return common.AtMost(l, MaxBlocks, func(b Block) api.Errno {
		return common.First(common.Within(b.From, 1, MaxUsed), common.Within(b.Add, -MaxPrice, MaxPrice), order(b.From))
	})
}

// risingFromZero returns the check whether the numbers of one list rise from 0 on.
func risingFromZero() func(int) api.Errno {
	order, opened := common.Rising(), false
	return func(x int) api.Errno {
		e := common.First(common.FailIf(!opened && x != 0, api.ErrOrder), order(x))
		opened = true
		return e
	}
}

// CheckCalendar returns the first error of a calendar, or OK.
func CheckCalendar(c Calendar) api.Errno {
	i := -1
	return common.First(
		common.Within(c.Notice, 0, MaxNotice),
		common.Some(c.Versions, MaxVersions, func(v Version) api.Errno {
			i++
			return common.First(
				checkDay(v.From),
				checkToday(v.Announced),
				checkNext(Calendar{Notice: c.Notice, Versions: c.Versions[:i]}, v),
				CheckTariff(v.Tariff),
			)
		}),
	)
}

func checkDay(day int) api.Errno {
	return common.Within(day, 0, api.MaxDay)
}

// checkToday returns the error of a day on which something is announced or withdrawn, or OK.
func checkToday(day int) api.Errno {
	return common.Within(day, -MaxNotice, api.MaxDay)
}

// checkNext returns the error of a version behind those of a calendar, or OK.
func checkNext(c Calendar, v Version) api.Errno {
	before := Version{From: -1, Announced: -MaxNotice} // before the first version, all is in order
	if n := len(c.Versions); n > 0 {
		before = c.Versions[n-1]
	}
	return common.First(
		common.FailIf(v.From <= before.From || v.Announced < before.Announced, api.ErrOrder),
		checkNotice(c, v.Announced, v.From),
	)
}

// checkNotice returns ErrOld if the notice from one day to another is too short, or OK.
func checkNotice(c Calendar, today, from int) api.Errno {
	return common.FailIf(from < today+c.Notice, api.ErrOld)
}

func checkTick(tick int) api.Errno {
	return common.Within(tick, 0, api.MaxTick)
}

// checkLook returns the error of a span of ticks, or OK.
func checkLook(from, to int) api.Errno {
	return common.First(
		checkTick(from),
		checkTick(to),
		common.FailIf(from >= to, api.ErrSpan),
		common.FailIf(to-from > MaxLook, api.ErrLarge),
	)
}

// checkTicks returns ErrRange if a step is none, or a tick is no multiple of it in its range, or OK.
func checkTicks(step int, ticks ...int) api.Errno {
	if !isStep(step) {
		return api.ErrRange
	}
	return common.Each(ticks, func(tick int) api.Errno {
		return common.First(checkTick(tick), common.FailIf(tick%step != 0, api.ErrRange))
	})
}

func isStep(step int) bool {
	for _, s := range steps {
		if s == step {
			return true
		}
	}
	return false
}

// CheckProfile returns the first error of a profile, or OK.
func CheckProfile(p Profile) api.Errno {
	return common.First(
		checkTicks(p.Step, p.Start),
		common.AtMost(p.Energies, MaxIntervals, common.In(Missing, MaxEnergy)),
		common.FailIf(p.end() > api.MaxTick, api.ErrLarge),
	)
}

func checkUsed(used int) api.Errno {
	return common.Within(used, 0, MaxUsed)
}

// checkComplete returns ErrOpen if an interval of a profile is missing, or OK.
func checkComplete(p Profile) api.Errno {
	_, missing := p.known()
	return common.FailIf(missing > 0, api.ErrOpen)
}

// CheckLoad returns the first error of a load, or OK.
func CheckLoad(l Load) api.Errno {
	if e := checkTicks(l.Step, l.From, l.To); e != api.OK { // with a step that is none, there are no intervals to count
		return e
	}
	return common.First(
		common.FailIf(l.From >= l.To, api.ErrSpan),
		common.FailIf(l.slots() > MaxSlots, api.ErrMany),
		common.Within(l.Runs, 1, MaxSlots),
		common.Within(l.Starts, 1, MaxSlots),
		common.Within(l.Energy, 1, MaxEnergy),
		common.FailIf(l.slots() < l.Runs, api.ErrShort),
	)
}

// checkRuns returns the error of runs of a load that has none, or OK.
func checkRuns(l Load, runs []int) api.Errno {
	if len(runs) != l.Runs {
		return api.ErrShape
	}
	return common.Each(runs, common.Ascending(l.slots()))
}
