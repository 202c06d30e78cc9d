package mesh

import (
	"iter"
	"slices"

	"kilovar/api"
	"kilovar/common"
)

// way visits the nodes to which a node's entry leads, the node itself first. It ends, as all entries lead on.
func (s State) way(node int) iter.Seq[int] {
	return func(yield func(node int) bool) {
		for yield(node) && node != s.Coordinator && s.Entries[node].Next != nobody {
			node = s.Entries[node].Next
		}
	}
}

// route returns the route of a node, and whether it is routed.
func (s State) route(node int) ([]int, bool) {
	route := slices.Collect(s.way(node))
	if route[len(route)-1] != s.Coordinator {
		return nil, false
	}
	return route, true
}

// Route returns the route of a node to the coordinator.
func Route(m Mesh, s State, node int) ([]int, api.Errno) {
	if e := common.First(CheckState(m, s), checkNode(m, node)); e != api.OK {
		return nil, e
	}
	route, routed := s.route(node)
	return route, common.FailIf(!routed, api.ErrNone)
}

// Routed returns the nodes that are routed.
func Routed(m Mesh, s State) ([]int, api.Errno) {
	if e := CheckState(m, s); e != api.OK {
		return nil, e
	}
	isRouted := func(node int) bool {
		_, routed := s.route(node)
		return routed
	}
	return which(m, isRouted), api.OK
}
