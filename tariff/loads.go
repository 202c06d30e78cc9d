package tariff

import (
	"cmp"
	"slices"

	"kilovar/api"
	"kilovar/common"
)

// slots returns how many intervals there are in the span of a load.
func (l Load) slots() int {
	return (l.To - l.From) / l.Step
}

// profile returns the profile of a load that runs in all intervals of its span.
func (l Load) profile() Profile {
	return Profile{Start: l.From, Step: l.Step, Energies: slices.Repeat([]int{l.Energy}, l.slots())}
}

// plan is some runs, and what they cost.
type plan struct {
	runs []int
	cost int
}

// with returns a plan with one more run.
func (x plan) with(slot, cost int) plan {
	return plan{runs: append(slices.Clone(x.runs), slot), cost: x.cost + cost}
}

// order compares two plans with as many runs: -1 for the one that is cheaper, or else comes first.
func (x plan) order(y plan) int {
	return cmp.Or(cmp.Compare(x.cost, y.cost), slices.Compare(x.runs, y.runs))
}

// startsOf returns the number of starts of runs.
func startsOf(runs []int) int {
	starts := 0
	for i, slot := range runs {
		if i == 0 || slot != runs[i-1]+1 {
			starts++
		}
	}
	return starts
}

// stage is all that matters of the runs before an interval for those that may follow.
type stage struct {
	runs    int
	starts  int
	running bool
}

// stageBefore returns the stage of a plan before an interval.
func (x plan) stageBefore(slot int) stage {
	n := len(x.runs)
	return stage{runs: n, starts: startsOf(x.runs), running: n > 0 && x.runs[n-1] == slot-1}
}

// pruned returns the best plan of each stage before an interval from which a load can go on. What may follow on one of them may follow on all others of the same stage, for the same cost.
func pruned(plans []plan, slot int, l Load) []plan {
	slices.SortFunc(plans, plan.order)
	seen := map[stage]bool{}
	return slices.DeleteFunc(plans, func(x plan) bool {
		s := x.stageBefore(slot)
		worse := seen[s]
		seen[s] = true
		return worse || s.runs > l.Runs || s.starts > l.Starts
	})
}

// cheapest returns the cheapest runs of a load whose intervals have these prices.
func cheapest(slots []priced, l Load) plan {
	plans := []plan{{}}
	for i, x := range slots {
		longer := common.Mapped(plans, func(p plan) plan { return p.with(i, x.money()) })
		plans = pruned(append(plans, longer...), i+1, l)
	}
	plans = slices.DeleteFunc(plans, func(x plan) bool { return len(x.runs) < l.Runs })
	return plans[0] // there is one: runs that follow each other have one start
}

// Cheapest returns the cheapest intervals for a load, and what they cost.
func Cheapest(c Calendar, l Load) ([]int, int, api.Errno) {
	if e := common.First(CheckCalendar(c), CheckLoad(l)); e != api.OK {
		return nil, 0, e
	}
	slots, e := pricedBy(c, l.profile())
	if e != api.OK {
		return nil, 0, e
	}
	x := cheapest(slots, l)
	return x.runs, x.cost, api.OK
}

// CheckRuns returns the cost of some intervals for a load.
func CheckRuns(c Calendar, l Load, runs []int) (int, api.Errno) {
	if e := common.First(CheckCalendar(c), CheckLoad(l)); e != api.OK {
		return 0, e
	}
	if e := checkRuns(l, runs); e != api.OK {
		return 0, e
	}
	slots, e := pricedBy(c, l.profile())
	if e := common.First(e, common.FailIf(startsOf(runs) > l.Starts, api.ErrLimit)); e != api.OK {
		return 0, e
	}
	cost := 0
	for _, slot := range runs {
		cost += slots[slot].money()
	}
	return cost, api.OK
}

// Bound returns the least cost that a price proves.
func Bound(c Calendar, l Load, price int) (int, api.Errno) {
	if e := common.First(CheckCalendar(c), CheckLoad(l), checkPrice(price)); e != api.OK {
		return 0, e
	}
	slots, e := pricedBy(c, l.profile())
	if e != api.OK {
		return 0, e
	}
	sum := price * l.Runs
	for _, x := range slots {
		sum -= max(0, price-x.Price)
	}
	return l.Energy * sum, api.OK
}
