package access

import (
	"cmp"
	"slices"

	"kilovar/api"
	"kilovar/common"
)

// turning is a load with its index, and the turns that it has had.
type turning struct {
	Load
	index int
	turns int
}

// compare compares two loads by the order in which they are asked.
func (x turning) compare(y turning) int {
	return cmp.Or(cmp.Compare(x.turns, y.turns), cmp.Compare(x.index, y.index))
}

// Turns returns the loads that run in each slot.
func Turns(l []Load, limit, slots int) ([][]int, api.Errno) {
	if e := common.First(checkLoads(l), common.Within(limit, 0, MaxCap), common.Within(slots, 0, MaxSlots)); e != api.OK {
		return nil, e
	}
	var queue []turning
	for i, x := range l {
		queue = append(queue, turning{Load: x, index: i})
	}
	var out [][]int
	for range slots {
		out = append(out, nextSlot(queue, limit))
	}
	return out, api.OK
}

// nextSlot returns the loads that run in the next slot, and gives each of them a turn more.
func nextSlot(queue []turning, limit int) []int {
	slices.SortFunc(queue, turning.compare)
	var running []int
	power := 0
	for i := range queue {
		x := &queue[i]
		if power+x.Power > limit {
			continue
		}
		power += x.Power
		x.turns++
		running = append(running, x.index)
	}
	slices.Sort(running)
	return running
}
