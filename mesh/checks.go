package mesh

import (
	"slices"

	"kilovar/api"
	"kilovar/common"
)

// CheckMesh returns the first error of a mesh, or OK.
func CheckMesh(m Mesh) api.Errno {
	return common.First(checkNodes(m.Nodes), checkLinks(m))
}

func checkNodes(nodes []string) api.Errno {
	at := named(nodes)
	i := -1
	return common.AtMost(nodes, MaxNodes, func(name string) api.Errno {
		i++
		return common.First(common.Name(name), common.FailIf(at[name] < i, api.ErrTwice))
	})
}

// named returns the indices of nodes by their names; that of the first one of several with the same name.
func named(nodes []string) map[string]int {
	at := map[string]int{}
	for i, name := range slices.Backward(nodes) {
		at[name] = i
	}
	return at
}

// checkNewName returns the error of the name of a node that joins a mesh, or OK.
func checkNewName(m Mesh, name string) api.Errno {
	_, known := named(m.Nodes)[name]
	return common.First(common.Name(name), common.FailIf(known, api.ErrTwice))
}

func checkNode(m Mesh, node int) api.Errno {
	return common.Index(node, len(m.Nodes))
}

func checkLinks(m Mesh) api.Errno {
	i := -1
	return common.AtMost(m.Links, MaxLinks, func(l Link) api.Errno {
		i++
		return checkNewLink(Mesh{Nodes: m.Nodes, Links: m.Links[:i]}, l)
	})
}

// checkNewLink returns the first error of a link that a mesh gets, or OK.
func checkNewLink(m Mesh, l Link) api.Errno {
	return common.First(
		checkNode(m, l.A),
		checkNode(m, l.B),
		common.FailIf(l.A >= l.B, api.ErrOrder),
		common.FailIf(linked(m, [2]int{l.A, l.B}), api.ErrTwice),
		checkCost(l.Cost),
	)
}

func checkCost(cost int) api.Errno {
	return common.Within(cost, 1, MaxCost)
}

// checkNodeOf returns the first error of a mesh and of a node of it, or OK.
func checkNodeOf(m Mesh, node int) api.Errno {
	return common.First(CheckMesh(m), checkNode(m, node))
}

// checkEnds returns the first error of a mesh and of two nodes of it, or OK.
func checkEnds(m Mesh, from, to int) api.Errno {
	return common.First(checkNodeOf(m, from), checkNode(m, to))
}

// checkPairs returns the first error of pairs of nodes that are lost, or OK.
func checkPairs(m Mesh, lost [][2]int) api.Errno {
	return common.AtMost(lost, MaxLost, func(pair [2]int) api.Errno {
		return common.First(checkNode(m, pair[0]), checkNode(m, pair[1]))
	})
}

// checkStep returns ErrNone if two nodes are no neighbours, or OK.
func checkStep(m Mesh, pair [2]int) api.Errno {
	return common.FailIf(!linked(m, pair), api.ErrNone)
}

// checkRoute returns the first error of a route, or OK: all of its nodes are examined before any step.
func checkRoute(m Mesh, route []int) api.Errno {
	e := common.Some(route, MaxNodes, func(node int) api.Errno { return checkNode(m, node) })
	if e != api.OK {
		return e
	}
	return common.Each(slices.Collect(steps(route)), func(pair [2]int) api.Errno { return checkStep(m, pair) })
}

// CheckState returns the first error of a mesh and its state, or OK.
func CheckState(m Mesh, s State) api.Errno {
	e := common.First(
		checkNodeOf(m, s.Coordinator),
		common.Within(s.Number, 1, MaxBeacon),
		common.FailIf(len(s.Entries) != len(m.Nodes), api.ErrShape),
	)
	if e != api.OK {
		return e
	}
	for node, x := range s.Entries {
		if e := checkEntry(m, s, node, x); e != api.OK {
			return e
		}
	}
	return common.FailIf(!leads(m, s), api.ErrCycle)
}

// checkEntry returns the first error that an entry has without those of other nodes, or OK.
func checkEntry(m Mesh, s State, node int, x Entry) api.Errno {
	return common.First(
		common.Within(x.Number, 0, s.Number),
		common.Within(x.Distance, 0, MaxDistance),
		common.FailIf(x.Next != nobody && checkNode(m, x.Next) != api.OK, api.ErrUnknown),
		checkRole(m, s, node, x),
	)
}

// checkRole returns the error of an entry as that of the coordinator, or of another node, or OK.
func checkRole(m Mesh, s State, node int, x Entry) api.Errno {
	if node == s.Coordinator {
		return common.FailIf(x != s.source(), api.ErrForm)
	}
	return common.First(
		common.FailIf(x.Number == 0 && x != silent(), api.ErrForm),
		common.FailIf(x.Next != nobody && !linked(m, [2]int{node, x.Next}), api.ErrNone),
	)
}

// leads reports whether all entries of a state, which have no other error, lead on.
func leads(m Mesh, s State) bool {
	for node, x := range s.Entries {
		if node == s.Coordinator || x.Next == nobody {
			continue
		}
		next := s.Entries[x.Next]
		far := next.Distance + linkOf(m, [2]int{node, x.Next}).Cost
		if next.Number < x.Number || next.Number == x.Number && far > x.Distance {
			return false
		}
	}
	return true
}
