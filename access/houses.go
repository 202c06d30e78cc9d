package access

import (
	"iter"
	"slices"

	"kilovar/api"
	"kilovar/common"
)

// guess is what all houses may use; houses that there are not use nothing.
type guess [MaxHouses]int

// guessOf returns the guess with the uses of the houses that there are.
func guessOf(uses []int) guess {
	var out guess
	copy(out[:], uses)
	return out
}

// next returns the guess after another one, each house using at most most; after the last one it is the first one again.
func (x guess) next(houses, most int) guess {
	for i := range houses {
		if x[i] < most {
			x[i]++
			break
		}
		x[i] = 0
	}
	return x
}

// guesses visits all uses of all houses.
func guesses(houses, most int) iter.Seq[guess] {
	return func(yield func(x guess) bool) {
		var first guess
		for x := first; yield(x); {
			x = x.next(houses, most)
			if x == first {
				return
			}
		}
	}
}

// sum returns the sum of the uses of a set.
func (x guess) sum(set []int) int {
	sum := 0
	for _, house := range set {
		sum += x[house]
	}
	return sum
}

// answers reports whether a guess leads to all answers.
func (x guess) answers(l []Answer) bool {
	return !slices.ContainsFunc(l, func(a Answer) bool { return x.sum(a.Set) != a.Sum })
}

// differing returns how many houses are in one of two sets, and not in the other one.
func differing(houses int, one, other []int) int {
	n := 0
	for house := range houses {
		if slices.Contains(one, house) != slices.Contains(other, house) {
			n++
		}
	}
	return n
}

// Permitted reports whether a set of houses may be asked after others.
func Permitted(houses, k int, asked [][]int, set []int) (bool, api.Errno) {
	e := common.First(
		checkHouses(houses),
		common.Within(k, 1, MaxHouses),
		common.AtMost(asked, MaxAnswers, func(other []int) api.Errno { return checkSet(houses, other) }),
		checkSet(houses, set),
	)
	if e != api.OK {
		return false, e
	}
	isNear := func(other []int) bool {
		n := differing(houses, other, set)
		return n > 0 && n < k
	}
	return len(set) >= k && !slices.ContainsFunc(asked, isNear), api.OK
}

// Sum returns the sum of the uses of a set.
func Sum(uses []int, set []int) (int, api.Errno) {
	if e := common.First(common.Some(uses, MaxHouses, common.In(0, MaxUse)), checkSet(len(uses), set)); e != api.OK {
		return 0, e
	}
	return guessOf(uses).sum(set), api.OK
}

// derived returns the intervals of all houses for answers.
func derived(houses, most int, l []Answer) ([]api.Interval, api.Errno) {
	var out []api.Interval
	for x := range guesses(houses, most) {
		if x.answers(l) {
			out = widened(out, x[:houses])
		}
	}
	return out, common.FailIf(len(out) == 0, api.ErrInfeasible)
}

// widened returns intervals that have further uses, too; without intervals, those that have these alone.
func widened(l []api.Interval, uses []int) []api.Interval {
	if len(l) == 0 {
		return common.Mapped(uses, func(use int) api.Interval { return api.Interval{Low: use, High: use} })
	}
	for i, use := range uses {
		l[i].Low, l[i].High = min(l[i].Low, use), max(l[i].High, use)
	}
	return l
}

// Known returns the intervals of all houses for answers.
func Known(houses, most int, l []Answer) ([]api.Interval, api.Errno) {
	if e := checkAnswers(houses, most, l); e != api.OK {
		return nil, e
	}
	return derived(houses, most, l)
}

// Hidden reports whether the intervals of all houses are wide enough.
func Hidden(houses, most int, l []Answer, width int) (bool, api.Errno) {
	if e := common.First(checkAnswers(houses, most, l), common.Within(width, 0, MaxUse)); e != api.OK {
		return false, e
	}
	intervals, e := derived(houses, most, l)
	isNarrow := func(x api.Interval) bool { return x.High-x.Low < width }
	return e == api.OK && !slices.ContainsFunc(intervals, isNarrow), e
}

// Balance returns the balance of a transformer.
func Balance(fed api.Interval, meters []api.Interval) (api.Interval, api.Errno) {
	if e := common.First(checkEnergies(fed), common.AtMost(meters, api.MaxList, checkEnergies)); e != api.OK {
		return api.Interval{}, e
	}
	out := fed
	for _, x := range meters {
		out.Low -= x.High
		out.High -= x.Low
	}
	return out, api.OK
}

// Verdict returns whether something is lost for sure, or the meters are too high.
func Verdict(fed api.Interval, meters []api.Interval) (int, api.Errno) {
	lost, e := Balance(fed, meters)
	switch {
	case lost.Low > 0:
		return 1, e
	case lost.High < 0:
		return -1, e
	}
	return 0, e
}
