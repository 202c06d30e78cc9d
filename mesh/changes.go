package mesh

import (
	"slices"

	"kilovar/api"
	"kilovar/common"
)

func copyOfMesh(m Mesh) Mesh {
	return Mesh{Nodes: slices.Clone(m.Nodes), Links: slices.Clone(m.Links)}
}

// Broken returns mesh and state without a link.
func Broken(m Mesh, s State, link int) (Mesh, State, api.Errno) {
	if e := common.First(CheckState(m, s), common.Index(link, len(m.Links))); e != api.OK {
		return Mesh{}, State{}, e
	}
	less := copyOfMesh(m)
	less.Links = slices.Delete(less.Links, link, link+1)
	left := copyOf(s)
	for node := range left.Entries {
		x := &left.Entries[node]
		if linkOf(m, [2]int{node, x.Next}) == m.Links[link] {
			x.Next = nobody
		}
	}
	return less, left, api.OK
}

// Linked returns mesh and state with a link more.
func Linked(m Mesh, s State, l Link) (Mesh, State, api.Errno) {
	if e := common.First(CheckState(m, s), checkNewLink(m, l), checkRoom(m)); e != api.OK {
		return Mesh{}, State{}, e
	}
	more := copyOfMesh(m)
	more.Links = append(more.Links, l)
	return more, copyOf(s), api.OK
}

// checkRoom returns ErrMany if a mesh can have no link more, or OK.
func checkRoom(m Mesh) api.Errno {
	return common.FailIf(len(m.Links) == MaxLinks, api.ErrMany)
}

// Joined returns mesh and state with a node more.
func Joined(m Mesh, s State, name string, to, cost int) (Mesh, State, api.Errno) {
	e := common.First(
		CheckState(m, s),
		checkNewName(m, name),
		checkNode(m, to),
		checkCost(cost),
		common.FailIf(len(m.Nodes) == MaxNodes, api.ErrMany),
		checkRoom(m),
	)
	if e != api.OK {
		return Mesh{}, State{}, e
	}
	more, left := copyOfMesh(m), copyOf(s)
	more.Nodes = append(more.Nodes, name)
	more.Links = append(more.Links, Link{A: to, B: len(m.Nodes), Cost: cost})
	left.Entries = append(left.Entries, silent())
	return more, left, api.OK
}

// Elected returns the state with another coordinator.
func Elected(m Mesh, s State, node int) (State, api.Errno) {
	e := common.First(
		CheckState(m, s),
		checkNode(m, node),
		common.FailIf(node == s.Coordinator, api.ErrTwice),
		checkNext(s),
	)
	if e != api.OK {
		return State{}, e
	}
	left := s.with(s.Coordinator, Entry{Number: s.Number, Next: nobody})
	left.Coordinator = node
	return left.beaconed(), api.OK
}
