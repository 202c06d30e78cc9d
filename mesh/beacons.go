package mesh

import (
	"cmp"
	"slices"

	"kilovar/api"
	"kilovar/common"
)

// nobody is the Next of an entry that has none.
const nobody = -1

// silent returns the entry of a node that has heard nothing yet.
func silent() Entry {
	return Entry{Next: nobody}
}

// source returns the entry of the coordinator.
func (s State) source() Entry {
	return Entry{Number: s.Number, Next: s.Coordinator}
}

// copyOf returns the same state in new memory.
func copyOf(s State) State {
	s.Entries = slices.Clone(s.Entries)
	return s
}

// with returns a copy of a state with another entry of a node.
func (s State) with(node int, x Entry) State {
	out := copyOf(s)
	out.Entries[node] = x
	return out
}

// beaconed returns a state with the next number.
func (s State) beaconed() State {
	s.Number++
	return s.with(s.Coordinator, s.source())
}

// against compares two entries: 1 if the first one is better, -1 if the other one is.
func (x Entry) against(y Entry) int {
	return cmp.Or(cmp.Compare(x.Number, y.Number), cmp.Compare(y.Distance, x.Distance))
}

// offer is an entry that a neighbour, its Next, offers to a node.
type offer struct {
	Entry
	to int
}

// order compares two offers: -1 for the one that a node prefers.
func (x offer) order(y offer) int {
	return cmp.Or(y.against(x.Entry), cmp.Compare(x.Next, y.Next))
}

// offered returns what a neighbour offers to a node over a link with a cost, and whether it offers anything.
func (s State) offered(to, from, cost int) (offer, bool) {
	x := s.Entries[from]
	if x.Next == nobody || x.Distance+cost > MaxDistance {
		return offer{}, false
	}
	return offer{Entry: Entry{Number: x.Number, Distance: x.Distance + cost, Next: from}, to: to}, true
}

// heard returns a state after all at once that is heard. No offer is better than the coordinator's entry, which has the greatest number and the distance 0.
func (s State) heard(m Mesh, hears func(pair [2]int) bool) State {
	var offers []offer
	for pair, cost := range hops(m) {
		if x, made := s.offered(pair[0], pair[1], cost); made && hears(pair) {
			offers = append(offers, x)
		}
	}
	slices.SortFunc(offers, offer.order)
	out := copyOf(s)
	for _, x := range offers { // of a node's offers the first one is the best: none after it is better
		if x.against(out.Entries[x.to]) > 0 {
			out.Entries[x.to] = x.Entry
		}
	}
	return out
}

// round returns a state after a round in which nothing is lost.
func (s State) round(m Mesh) State {
	return s.heard(m, func([2]int) bool { return true })
}

// Begun returns the state at the beginning.
func Begun(m Mesh, coordinator int) (State, api.Errno) {
	if e := checkNodeOf(m, coordinator); e != api.OK {
		return State{}, e
	}
	s := State{Coordinator: coordinator, Number: 1, Entries: slices.Repeat([]Entry{silent()}, len(m.Nodes))}
	return s.with(coordinator, s.source()), api.OK
}

// Beaconed returns the state after a beacon.
func Beaconed(m Mesh, s State) (State, api.Errno) {
	if e := common.First(CheckState(m, s), checkNext(s)); e != api.OK {
		return State{}, e
	}
	return s.beaconed(), api.OK
}

// checkNext returns ErrLimit if there is no number behind that of a state, or OK.
func checkNext(s State) api.Errno {
	return common.FailIf(s.Number == MaxBeacon, api.ErrLimit)
}

// Heard returns the state after a node has heard another one.
func Heard(m Mesh, s State, to, from int) (State, api.Errno) {
	heard := [2]int{to, from}
	e := common.First(CheckState(m, s), checkNode(m, to), checkNode(m, from), checkStep(m, heard))
	if e != api.OK {
		return State{}, e
	}
	return s.heard(m, func(pair [2]int) bool { return pair == heard }), api.OK
}

// Round returns the state after a round.
func Round(m Mesh, s State, lost [][2]int) (State, api.Errno) {
	if e := common.First(CheckState(m, s), checkPairs(m, lost)); e != api.OK {
		return State{}, e
	}
	return s.heard(m, func(pair [2]int) bool { return !slices.Contains(lost, pair) }), api.OK
}

// Rounds returns the state after all rounds that change something, and their number. It ends, as entries only become better.
func Rounds(m Mesh, s State) (State, int, api.Errno) {
	if e := CheckState(m, s); e != api.OK {
		return State{}, 0, e
	}
	n := 0
	before, after := copyOf(s), s.round(m)
	for !slices.Equal(before.Entries, after.Entries) {
		before, after = after, after.round(m)
		n++
	}
	return before, n, api.OK
}
