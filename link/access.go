package link

import (
	"cmp"
	"slices"

	"kilovar/api"
	"kilovar/common"
)

// nobody is the index of the winner of a slot that nobody takes.
const nobody = -1

// rank returns the rank of a station.
func (s Station) rank() int {
	return s.Priority + s.Waited
}

// against returns 1 for a station that wins a slot against another one, and 0 if the first one of both does. One that has no frames loses against each that has.
func (s Station) against(other Station) int {
	return cmp.Or(cmp.Compare(min(s.Frames, 1), min(other.Frames, 1)), cmp.Compare(s.rank(), other.rank()))
}

// after returns a station after a slot with a winner.
func (s Station) after(winner Station) Station {
	switch {
	case s == winner: // no two stations have the same name
		s.Frames--
		s.Waited = 0
	case s.Frames > 0:
		s.Waited = min(s.Waited+1, MaxWait)
	default:
		s.Waited = 0
	}
	return s
}

// winner returns the index of the winner of a slot, or nobody.
func winner(l []Station) int {
	if !slices.ContainsFunc(l, func(s Station) bool { return s.Frames > 0 }) {
		return nobody
	}
	return slices.Index(l, slices.MaxFunc(l, Station.against)) // of several, MaxFunc returns the first one
}

// slot returns the index of the winner of an open slot, or nobody, and the stations after it.
func slot(l []Station) (int, []Station) {
	first := winner(l)
	if first == nobody {
		return nobody, l
	}
	return first, common.Mapped(l, func(s Station) Station { return s.after(l[first]) })
}

// Winner returns the index of the winner of a slot.
func Winner(l []Station) (int, api.Errno) {
	if e := CheckStations(l); e != api.OK {
		return 0, e
	}
	first := winner(l)
	if first == nobody {
		return 0, api.ErrNone
	}
	return first, api.OK
}

// Served returns the winners of n successive open slots, and the stations after them.
func Served(l []Station, n int) ([]int, []Station, api.Errno) {
	if e := common.First(CheckStations(l), checkSlots(n)); e != api.OK {
		return nil, nil, e
	}
	left := slices.Clone(l)
	var winners []int
	for range n {
		first, after := slot(left)
		if first == nobody {
			break
		}
		winners, left = append(winners, first), after
	}
	return winners, left, api.OK
}

// Bound returns the wait bound of a number of stations.
func Bound(n int) (int, api.Errno) {
	if e := common.Within(n, 1, MaxStations); e != api.OK {
		return 0, e
	}
	return n + MaxPriority, api.OK
}

// Open returns the first n open slots from an index on.
func Open(cycle []bool, from, n int) ([]int, api.Errno) {
	e := common.First(checkCycle(cycle), common.Within(from, 0, api.MaxNumber), checkSlots(n), checkOpen(cycle))
	if e != api.OK {
		return nil, e
	}
	var out []int
	for at := from; len(out) < n; at++ {
		if cycle[at%len(cycle)] {
			out = append(out, at)
		}
	}
	return out, api.OK
}

// Access returns the winner of each slot, or -1.
func Access(l []Station, cycle []bool, slots int) ([]int, api.Errno) {
	e := common.First(CheckStations(l), checkCycle(cycle), checkSlots(slots), checkOpen(cycle))
	if e != api.OK {
		return nil, e
	}
	var winners []int
	for at := range slots {
		first := nobody
		if cycle[at%len(cycle)] {
			first, l = slot(l)
		}
		winners = append(winners, first)
	}
	return winners, api.OK
}
