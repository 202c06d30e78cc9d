package mesh

import (
	"iter"
	"slices"

	"kilovar/api"
)

// nowhere is the distance of a node to which there is no route.
const nowhere = -1

// linkOf returns the link that joins two nodes, or the zero value, which is no link.
func linkOf(m Mesh, pair [2]int) Link {
	var found Link
search:
	for _, l := range m.Links {
		switch pair {
		case [2]int{l.A, l.B}, [2]int{l.B, l.A}:
			found = l
			break search
		}
	}
	return found
}

// linked reports whether a link joins two nodes.
func linked(m Mesh, pair [2]int) bool {
	return linkOf(m, pair) != Link{}
}

// hops visits all pairs of a node and a neighbour that it hears, with the costs of their links.
func hops(m Mesh) iter.Seq2[[2]int, int] {
	return func(yield func(pair [2]int, cost int) bool) {
		for _, l := range m.Links {
			if !yield([2]int{l.A, l.B}, l.Cost) || !yield([2]int{l.B, l.A}, l.Cost) {
				return
			}
		}
	}
}

// steps visits the pairs of successive nodes of a route.
func steps(route []int) iter.Seq[[2]int] {
	return func(yield func(pair [2]int) bool) {
		for i := 1; i < len(route); i++ {
			if !yield([2]int{route[i-1], route[i]}) {
				return
			}
		}
	}
}

// Neighbours returns the neighbours of a node.
func Neighbours(m Mesh, node int) ([]int, api.Errno) {
	if e := checkNodeOf(m, node); e != api.OK {
		return nil, e
	}
	return which(m, func(other int) bool { return linked(m, [2]int{node, other}) }), api.OK
}

// which returns the nodes for which something holds, ascending.
func which(m Mesh, holds func(node int) bool) []int {
	var out []int
	for node := range len(m.Nodes) {
		if holds(node) {
			out = append(out, node)
		}
	}
	return out
}

// Cost returns the cost of a route.
func Cost(m Mesh, route []int) (int, api.Errno) {
	if e := CheckMesh(m); e != api.OK {
		return 0, e
	}
	if e := checkRoute(m, route); e != api.OK {
		return 0, e
	}
	cost := 0
	for pair := range steps(route) {
		cost += linkOf(m, pair).Cost
	}
	return cost, api.OK
}

// Distances returns the distances of all nodes from a coordinator.
func Distances(m Mesh, coordinator int) ([]int, api.Errno) {
	if e := checkNodeOf(m, coordinator); e != api.OK {
		return nil, e
	}
	out := slices.Repeat([]int{nowhere}, len(m.Nodes))
	out[coordinator] = 0
	for range len(m.Nodes) { // no route of least cost has more steps
		for pair, cost := range hops(m) {
			to, from := pair[0], pair[1]
			if out[from] != nowhere && (out[to] == nowhere || out[to] > out[from]+cost) {
				out[to] = out[from] + cost
			}
		}
	}
	return out, api.OK
}
