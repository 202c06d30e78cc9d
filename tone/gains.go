package tone

import (
	"cmp"
	"iter"
	"slices"

	"kilovar/api"
	"kilovar/common"
)

// Path returns the nodes of the path from a node to another one.
func Path(m Mains, from, to int) ([]int, api.Errno) {
	if e := checkEnds(m, from, to); e != api.OK {
		return nil, e
	}
	return slices.Collect(path(m, from, to)), api.OK
}

func checkEnds(m Mains, from, to int) api.Errno {
	return common.First(CheckMains(m), common.Index(from, len(m.Nodes)), common.Index(to, len(m.Nodes)))
}

// path visits the nodes of the path from a node to another one. Of two nodes the one with the greater index is not above the other one: it can be left for the node above it.
func path(m Mains, from, to int) iter.Seq[int] {
	return func(yield func(int) bool) {
		at, end := from, to
		var down []int
		for at != end {
			if at < end {
				down = append(down, end)
				end = m.Nodes[end].Up
				continue
			}
			if !yield(at) {
				return
			}
			at = m.Nodes[at].Up
		}
		down = append(down, at)
		for _, i := range slices.Backward(down) {
			if !yield(i) {
				return
			}
		}
	}
}

// below returns the nodes of a path whose segments to the node above are on it; of two successive nodes that is the one with the greater index.
func below(m Mains, from, to int) []Node {
	var out []Node
	before := from
	for i := range path(m, from, to) {
		if i != before {
			out = append(out, m.Nodes[max(before, i)])
		}
		before = i
	}
	return out
}

// loadsOn returns the loads in a state at the nodes of a path.
func loadsOn(m Mains, from, to int, state string) []Load {
	var out []Load
	for i := range path(m, from, to) {
		for _, l := range m.Loads {
			if l.Node == i && l.State == state {
				out = append(out, l)
			}
		}
	}
	return out
}

// isOpen reports whether it is not known of a load at a node of a path whether it is on.
func isOpen(m Mains, from, to int) bool {
	open := false
search:
	for i := range path(m, from, to) {
		for _, l := range m.Loads {
			if l.Node == i && l.State == may {
				open = true
				break search
			}
		}
	}
	return open
}

// factor returns what a node multiplies: the factor of the segment to the node above it.
func (n Node) factor(carrier int) api.Gauss { return n.Factors[carrier] }

// factor returns what a load multiplies while it is on.
func (l Load) factor(carrier int) api.Gauss { return l.Factors[carrier] }

// factorsOf returns what each element of a list multiplies.
func factorsOf[T any](l []T, factor func(T, int) api.Gauss, carrier int) []api.Gauss {
	return common.Mapped(l, func(x T) api.Gauss { return factor(x, carrier) })
}

// factorsOn returns the factors of a path without the loads that may be on.
func factorsOn(m Mains, from, to, carrier int) []api.Gauss {
	out := factorsOf(below(m, from, to), Node.factor, carrier)
	out = append(out, factorsOf(loadsOn(m, from, to, on), Load.factor, carrier)...)
	if a, b := m.Nodes[from].Phase, m.Nodes[to].Phase; a != 0 && b != 0 && a != b {
		out = append(out, m.Cross[carrier])
	}
	return out
}

func times(a, b api.Gauss) api.Gauss {
	return api.Gauss{Re: a.Re*b.Re - a.Im*b.Im, Im: a.Re*b.Im + a.Im*b.Re}
}

func square(a api.Gauss) int {
	return a.Re*a.Re + a.Im*a.Im
}

// Gain returns the gain of a carrier from a node to another one.
func Gain(m Mains, from, to, carrier int) (api.Gauss, api.Errno) {
	if e := common.First(checkEnds(m, from, to), common.Index(carrier, m.Carriers)); e != api.OK {
		return api.Gauss{}, e
	}
	return gain(m, from, to, carrier)
}

func gain(m Mains, from, to, carrier int) (api.Gauss, api.Errno) {
	l := factorsOn(m, from, to, carrier)
	if e := common.First(common.FailIf(isOpen(m, from, to), api.ErrOpen), common.FailIf(len(l) > MaxFactors, api.ErrLarge)); e != api.OK {
		return api.Gauss{}, e
	}
	product := api.Gauss{Re: 1}
	for _, x := range l {
		product = times(product, x)
	}
	return product, api.OK
}

// Enclosed returns the interval of the squares of all gains that are possible.
func Enclosed(m Mains, from, to, carrier int) (api.Interval, api.Errno) {
	if e := common.First(checkEnds(m, from, to), common.Index(carrier, m.Carriers)); e != api.OK {
		return api.Interval{}, e
	}
	sure := factorsOn(m, from, to, carrier)
	perhaps := factorsOf(loadsOn(m, from, to, may), Load.factor, carrier)
	if len(sure)+len(perhaps) > MaxFactors {
		return api.Interval{}, api.ErrLarge
	}
	ends := [2]int{1, 1}
	for _, x := range sure {
		ends = widened(ends, [2]int{square(x), square(x)})
	}
	for _, x := range perhaps {
		ends = widened(ends, [2]int{1, square(x)}) // no square is below 1: the load makes no gain less
	}
	return api.Interval{Low: ends[0], High: ends[1]}, api.OK
}

// widened returns the ends of an interval of squares after one more factor, whose square has ends as well.
func widened(ends, factor [2]int) [2]int {
	if factor == [2]int{1, 1} { // a factor that only turns
		return ends
	}
	return [2]int{ends[0] * factor[0], ends[1] * factor[1]}
}

// rank is a node, and the square of the gain to it.
type rank struct {
	node   int
	square int
}

// Ranked returns all other nodes by the squares of their gains.
func Ranked(m Mains, from, carrier int) ([]int, api.Errno) {
	if e := common.First(CheckMains(m), common.Index(from, len(m.Nodes)), common.Index(carrier, m.Carriers)); e != api.OK {
		return nil, e
	}
	var ranks []rank
	for to := range len(m.Nodes) {
		if to == from {
			continue
		}
		x, e := gain(m, from, to, carrier)
		if e != api.OK {
			return nil, e
		}
		ranks = append(ranks, rank{node: to, square: square(x)})
	}
	slices.SortStableFunc(ranks, func(a, b rank) int { return cmp.Compare(b.square, a.square) })
	return common.Mapped(ranks, func(r rank) int { return r.node }), api.OK
}
