package headend

import (
	"slices"

	"kilovar/api"
	"kilovar/common"
)

// none is the slot of a job that is not tried.
const none = -1

// CheckJobs returns the first error of jobs and slots, or OK.
func CheckJobs(l []Job, slots []int) api.Errno {
	once := common.Once[string]()
	return common.First(
		common.AtMost(l, MaxJobs, func(j Job) api.Errno {
			return common.First(
				common.Name(j.Name),
				once(j.Name),
				common.Within(j.Deadline, 0, MaxSlots-1),
				common.Within(j.Hops, 1, MaxHops),
				common.Within(j.Value, 0, MaxValue),
			)
		}),
		common.AtMost(slots, MaxSlots, common.In(0, MaxRoom)),
	)
}

// CheckPlan returns the value of a plan.
func CheckPlan(l []Job, slots, plan []int) (int, api.Errno) {
	isSlot := func(slot int) api.Errno {
		return common.FailIf(slot != none && common.Index(slot, len(slots)) != api.OK, api.ErrUnknown)
	}
	e := common.First(CheckJobs(l, slots), common.FailIf(len(plan) != len(l), api.ErrShape), common.Each(plan, isSlot))
	if e != api.OK {
		return 0, e
	}
	value, room := 0, slices.Clone(slots)
	for i, slot := range plan {
		if slot > l[i].Deadline {
			return 0, api.ErrOver
		}
		if slot != none {
			value += l[i].Value
			room[slot] -= l[i].Hops
		}
	}
	if isFull := func(left int) bool { return left < 0 }; slices.ContainsFunc(room, isFull) {
		return 0, api.ErrLarge
	}
	return value, api.OK
}

// search is how far the search for the best plan is: the room that is left, the plan that is tried, and the best one of those before, with its value.
type search struct {
	jobs []Job
	room []int
	plan []int
	best []int
	most int
}

// from searches the plans that begin like the one that is tried, before a job; these jobs have a value.
func (s *search) from(job, value int) {
	if job == len(s.jobs) {
		s.keep(value)
		return
	}
	j, rest := s.jobs[job], worth(s.jobs[job:])
	last := min(j.Deadline, len(s.room)-1)
slots:
	for slot := none; slot <= last; slot++ {
		switch {
		case value+rest <= s.most: // none of the plans that are left here is better
			break slots
		case slot == none:
			s.plan[job] = none
			s.from(job+1, value)
		case s.room[slot] >= j.Hops:
			s.plan[job] = slot
			s.room[slot] -= j.Hops
			s.from(job+1, value+j.Value)
			s.room[slot] += j.Hops
		}
	}
}

// keep keeps the plan that is tried if it is better than all before: of equal ones the first one remains.
func (s *search) keep(value int) {
	if value > s.most {
		s.best, s.most = slices.Clone(s.plan), value
	}
}

// worth returns the value of all of some jobs together.
func worth(l []Job) int {
	value := 0
	for _, j := range l {
		value += j.Value
	}
	return value
}

// Plan returns the best plan, and its value.
func Plan(l []Job, slots []int) ([]int, int, api.Errno) {
	if e := CheckJobs(l, slots); e != api.OK {
		return nil, 0, e
	}
	s := search{jobs: l, room: slices.Clone(slots), plan: make([]int, len(l)), most: -1} // each plan is better than none
	s.from(0, 0)
	return s.best, s.most, api.OK
}

// Bound returns the value that no plan exceeds, by prices of a hop in each slot.
func Bound(l []Job, slots, prices []int) (int, api.Errno) {
	e := common.First(
		CheckJobs(l, slots),
		common.FailIf(len(prices) != len(slots), api.ErrShape),
		common.Each(prices, common.In(0, MaxValue)),
	)
	if e != api.OK {
		return 0, e
	}
	bound := 0
	for slot, price := range prices {
		bound += price * slots[slot]
	}
	for _, j := range l {
		bound += j.gain(prices)
	}
	return bound, api.OK
}

// gain returns what a job is worth at most above the prices of its hops, in the slots up to its deadline.
func (j Job) gain(prices []int) int {
	gain := 0
	for slot, price := range prices {
		if slot <= j.Deadline {
			gain = max(gain, j.Value-j.Hops*price)
		}
	}
	return gain
}
