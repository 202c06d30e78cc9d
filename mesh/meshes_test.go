package mesh_test

import (
	"math"
	"testing"

	"kilovar/api"
	"kilovar/mesh"
)

// P5.1

func TestMeshes(t *testing.T) {
	for _, m := range []mesh.Mesh{
		{}, {Nodes: []string{}}, {Nodes: []string{"a"}}, shown(), {Nodes: names(32), Links: links(128)}, line(32, 100), {Nodes: []string{"a", "A", "a_", "abcdefghijklmnopqrstuvwx"}}, {Nodes: names(2), Links: []mesh.Link{joins(0, 1, 1)}}, {Nodes: names(3), Links: []mesh.Link{joins(1, 2, 100), joins(0, 2, 100), joins(0, 1, 100)}},
	} {
		same(t, "CheckMesh", mesh.CheckMesh(m), api.OK)
	}
	for _, x := range meshErrors() {
		same(t, "CheckMesh with errors", mesh.CheckMesh(x.m), x.e)
	}
}

func TestNeighbours(t *testing.T) {
	for node, want := range [][]int{{1, 2}, {0, 2, 3}, {0, 1}, {1}, {}} {
		l, e := mesh.Neighbours(shown(), node)
		same(t, "Neighbours", all(l, e), all(want, api.OK))
	}
	m := mesh.Mesh{Nodes: names(4), Links: []mesh.Link{joins(2, 3, 1), joins(1, 2, 1), joins(0, 2, 1)}}
	l, e := mesh.Neighbours(m, 2)
	same(t, "Neighbours of links in any order", all(l, e), all(ints(0, 1, 3), api.OK))
	l, e = mesh.Neighbours(mesh.Mesh{Nodes: names(1)}, 0)
	same(t, "Neighbours of the only node", all(l, e), all(ints(), api.OK))
	for _, node := range ints(-1, 5, math.MinInt, math.MaxInt) {
		l, e := mesh.Neighbours(shown(), node)
		same(t, "Neighbours of no node", all(l, e), all(ints(), api.ErrUnknown))
	}
	l, e = mesh.Neighbours(mesh.Mesh{}, 0)
	same(t, "Neighbours in the mesh without nodes", all(l, e), all(ints(), api.ErrUnknown))
	for _, x := range meshErrors() {
		for _, node := range ints(0, -1) {
			l, e := mesh.Neighbours(x.m, node)
			same(t, "Neighbours with errors", all(l, e), all(ints(), x.e))
		}
	}
}

func TestCost(t *testing.T) {
	for _, x := range []struct {
		route []int
		cost  int
	}{{ints(0, 2, 1, 3), 8}, {ints(3, 1, 2, 0), 8}, {ints(0, 1, 3), 9}, {ints(4), 0}, {ints(0), 0}, {ints(0, 1), 4}, {ints(1, 0), 4}, {ints(0, 1, 0, 1), 12}, {ints(2, 1, 0, 2), 7}} {
		n, e := mesh.Cost(shown(), x.route)
		same(t, "Cost", all(n, e), all(x.cost, api.OK))
	}
	var long []int
	for i := range 32 {
		long = append(long, i)
	}
	n, e := mesh.Cost(line(32, 100), long)
	same(t, "Cost of the longest route", all(n, e), all(3100, api.OK))
	for _, x := range []struct {
		route []int
		e     api.Errno
	}{
		{nil, api.ErrEmpty}, {ints(), api.ErrEmpty}, {make([]int, 33), api.ErrMany}, {repeated(9, 33), api.ErrMany}, {ints(5), api.ErrUnknown}, {ints(-1), api.ErrUnknown}, {ints(0, 3, 5), api.ErrUnknown}, {ints(0, 0, math.MaxInt), api.ErrUnknown}, {ints(math.MinInt, 0), api.ErrUnknown},
		{ints(0, 3), api.ErrNone}, {ints(0, 0), api.ErrNone}, {ints(0, 1, 4), api.ErrNone}, {ints(0, 1, 1, 0), api.ErrNone}, {ints(4, 0, 1), api.ErrNone}, {make([]int, 32), api.ErrNone},
	} {
		n, e := mesh.Cost(shown(), x.route)
		same(t, "Cost with errors", all(n, e), all(0, x.e))
	}
	for _, x := range meshErrors() {
		for _, route := range [][]int{{0}, nil} {
			n, e := mesh.Cost(x.m, route)
			same(t, "Cost with errors of the mesh", all(n, e), all(0, x.e))
		}
	}
}

func TestDistances(t *testing.T) {
	for node, want := range [][]int{{0, 3, 1, 8, -1}, {3, 0, 2, 5, -1}, {1, 2, 0, 7, -1}, {8, 5, 7, 0, -1}, {-1, -1, -1, -1, 0}} {
		l, e := mesh.Distances(shown(), node)
		same(t, "Distances", all(l, e), all(want, api.OK))
	}
	for _, node := range ints(0, 31) {
		l, e := mesh.Distances(line(32, 100), node)
		same(t, "Distances: error", e, api.OK)
		for i, d := range l {
			same(t, "a distance on a line", d, max(node-i, i-node)*100)
		}
	}
	for _, node := range ints(-1, 5, math.MinInt, math.MaxInt) {
		l, e := mesh.Distances(shown(), node)
		same(t, "Distances from no node", all(l, e), all(ints(), api.ErrUnknown))
	}
	for _, x := range meshErrors() {
		for _, node := range ints(0, -1) {
			l, e := mesh.Distances(x.m, node)
			same(t, "Distances with errors", all(l, e), all(ints(), x.e))
		}
	}
}

// TestDistancesOfManyMeshes compares them with those that all nodes between lead to, one after the other; a link's index does not matter.
func TestDistancesOfManyMeshes(t *testing.T) {
	for _, m := range manyMeshes() {
		want := distances(m)
		for node := range m.Nodes {
			l, e := mesh.Distances(m, node)
			same(t, "Distances", all(l, e), all(want[node], api.OK))
		}
	}
}
