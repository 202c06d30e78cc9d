package credit

import (
	"iter"
	"slices"

	"kilovar/api"
	"kilovar/common"
)

// have reports whether hours have a tick.
func (h Hours) have(tick int) bool {
	weekday, second := tick/Day%len(h.Days), tick%Day
	return h.Days[weekday] && second >= h.Span.From && second < h.Span.To
}

func isProtected(l []Hours, tick int) bool {
	return slices.ContainsFunc(l, func(h Hours) bool { return h.have(tick) })
}

// Protected reports whether a tick is protected.
func Protected(l []Hours, tick int) (bool, api.Errno) {
	if e := common.First(CheckHours(l), checkTick(tick)); e != api.OK {
		return false, e
	}
	return isProtected(l, tick), api.OK
}

// nextEnd returns the first tick after another one at which hours may end: at the end of a span, or of a day.
func nextEnd(l []Hours, tick int) int {
	second, end := tick%Day, Day
	for _, h := range l {
		if h.Span.To > second {
			end = min(end, h.Span.To)
		}
	}
	return tick - second + end
}

// ends visits a tick and, from it on, all ticks at which hours may end: protected ticks become free nowhere else.
func ends(l []Hours, tick int) iter.Seq[int] {
	return func(yield func(tick int) bool) {
		for tick <= api.MaxTick && yield(tick) {
			tick = nextEnd(l, tick)
		}
	}
}

// free returns the next free tick.
func free(l []Hours, tick int) (int, api.Errno) {
	for end := range ends(l, tick) {
		if !isProtected(l, end) {
			return end, api.OK
		}
	}
	return 0, api.ErrNone
}

// Free returns the next free tick.
func Free(l []Hours, tick int) (int, api.Errno) {
	if e := common.First(CheckHours(l), checkTick(tick)); e != api.OK {
		return 0, e
	}
	return free(l, tick)
}

// exhaustedFrom returns the first tick after which an account is exhausted, from a tick on.
func (a Account) exhaustedFrom(tick, use int) int {
	left := a.left()
	if left < 0 {
		return tick
	}
	return tick + left/use + 1
}

// Cut returns the tick at which a supply is cut.
func Cut(a Account, l []Hours, tick, use int) (int, api.Errno) {
	if e := common.First(CheckAccount(a), CheckHours(l), checkTick(tick), common.Within(use, 1, MaxUse)); e != api.OK {
		return 0, e
	}
	return free(l, a.exhaustedFrom(tick, use))
}
