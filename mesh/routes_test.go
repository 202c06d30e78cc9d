package mesh_test

import (
	"math"
	"math/rand"
	"testing"

	"kilovar/api"
	"kilovar/mesh"
)

// P5.3

// cut returns the state of M after three rounds, in which 1 has lost its link to 2.
func cut() mesh.State {
	return changedState(func(s *mesh.State) { s.Entries[1].Next = -1 })
}

func TestRoute(t *testing.T) {
	for _, x := range []struct {
		s     mesh.State
		node  int
		route []int
		e     api.Errno
	}{
		{calm(), 3, ints(3, 1, 2, 0), api.OK}, {calm(), 1, ints(1, 2, 0), api.OK}, {calm(), 2, ints(2, 0), api.OK}, {calm(), 0, ints(0), api.OK}, {calm(), 4, nil, api.ErrNone},
		{cut(), 1, nil, api.ErrNone}, {cut(), 3, nil, api.ErrNone}, {cut(), 2, ints(2, 0), api.OK}, {begun(), 0, ints(0), api.OK}, {begun(), 1, nil, api.ErrNone},
		{state(3, 2, entry(1, 0, -1), entry(2, 5, 3), entry(1, 1, 0), entry(2, 0, 3), silent), 1, ints(1, 3), api.OK}, {state(3, 2, entry(1, 0, -1), entry(2, 5, 3), entry(1, 1, 0), entry(2, 0, 3), silent), 2, nil, api.ErrNone},
		{state(0, 9, entry(9, 0, 0), entry(3, 0, 2), entry(4, 7, 0), entry(2, 0, 1), silent), 3, ints(3, 1, 2, 0), api.OK}, // by entries of four numbers
		{calm(), -1, nil, api.ErrUnknown}, {calm(), 5, nil, api.ErrUnknown}, {calm(), math.MinInt, nil, api.ErrUnknown}, {calm(), math.MaxInt, nil, api.ErrUnknown},
	} {
		l, e := mesh.Route(shown(), x.s, x.node)
		same(t, "Route", all(l, e), all(x.route, x.e))
	}
	m := line(32, 100)
	s, _, _ := mesh.Rounds(m, value(mesh.Begun(m, 0)))
	l, e := mesh.Route(m, s, 31)
	same(t, "the longest Route", all(len(l), l[0], l[31], e), all(32, 31, 0, api.OK))
	eachWrongState(func(m mesh.Mesh, s mesh.State, want api.Errno) {
		for _, node := range ints(0, -1) {
			l, e := mesh.Route(m, s, node)
			same(t, "Route with errors", all(l, e), all(ints(), want))
		}
	})
}

func TestRouted(t *testing.T) {
	for _, x := range []struct {
		s    mesh.State
		want []int
	}{
		{calm(), ints(0, 1, 2, 3)}, {cut(), ints(0, 2)}, {begun(), ints(0)}, {changedState(func(s *mesh.State) { s.Entries[2].Next = -1 }), ints(0)}, {changedState(func(s *mesh.State) { s.Entries[3].Next = -1 }), ints(0, 1, 2)},
		{state(3, 2, entry(1, 0, -1), entry(2, 5, 3), entry(1, 1, 0), entry(2, 0, 3), silent), ints(1, 3)}, {state(4, 2, entry(1, 0, -1), entry(1, 4, 0), entry(1, 1, 0), entry(1, 9, 1), entry(2, 0, 4)), ints(4)},
	} {
		l, e := mesh.Routed(shown(), x.s)
		same(t, "Routed", all(l, e), all(x.want, api.OK))
	}
	eachWrongState(func(m mesh.Mesh, s mesh.State, want api.Errno) {
		l, e := mesh.Routed(m, s)
		same(t, "Routed with errors", all(l, e), all(ints(), want))
	})
}

func TestReached(t *testing.T) {
	for node, want := range [][]int{{0, 1, 2, 3}, {0, 1, 2, 3}, {0, 1, 2, 3}, {0, 1, 2, 3}, {4}} {
		l, e := mesh.Reached(shown(), node)
		same(t, "Reached", all(l, e), all(want, api.OK))
	}
	l, e := mesh.Reached(line(32, 100), 16)
	same(t, "Reached on a line", all(len(l), l[0], l[31], e), all(32, 0, 31, api.OK))
	for _, node := range ints(-1, 5, math.MinInt, math.MaxInt) {
		l, e := mesh.Reached(shown(), node)
		same(t, "Reached from no node", all(l, e), all(ints(), api.ErrUnknown))
	}
	for _, x := range meshErrors() {
		for _, node := range ints(0, -1) {
			l, e := mesh.Reached(x.m, node)
			same(t, "Reached with errors", all(l, e), all(ints(), x.e))
		}
	}
}

// endErrors are two nodes of M of which one is none.
var endErrors = [][2]int{{-1, 0}, {5, 0}, {0, -1}, {0, 5}, {math.MinInt, 4}, {0, math.MaxInt}, {5, 5}, {-1, -1}}

func TestBarrier(t *testing.T) {
	for _, x := range []struct {
		from, to int
		set      []int
		e        api.Errno
	}{{0, 4, ints(0, 1, 2, 3), api.OK}, {3, 4, ints(0, 1, 2, 3), api.OK}, {4, 0, ints(4), api.OK}, {4, 3, ints(4), api.OK}, {3, 0, nil, api.ErrRule}, {0, 1, nil, api.ErrRule}, {0, 0, nil, api.ErrRule}, {4, 4, nil, api.ErrRule}} {
		l, e := mesh.Barrier(shown(), x.from, x.to)
		same(t, "Barrier", all(l, e), all(x.set, x.e))
	}
	for _, x := range endErrors {
		l, e := mesh.Barrier(shown(), x[0], x[1])
		same(t, "Barrier between nodes of which one is none", all(l, e), all(ints(), api.ErrUnknown))
	}
	for _, x := range meshErrors() {
		for _, node := range ints(0, -1) {
			l, e := mesh.Barrier(x.m, node, 0)
			same(t, "Barrier with errors", all(l, e), all(ints(), x.e))
		}
	}
}

func TestCheckBarrier(t *testing.T) {
	for _, x := range []struct {
		from, to int
		set      []int
		e        api.Errno
	}{
		{0, 4, ints(0, 1, 2, 3), api.OK}, {3, 4, ints(0, 1, 2, 3), api.OK}, {4, 0, ints(4), api.OK},
		{0, 4, ints(0, 1, 2), api.ErrProof}, {0, 4, ints(0), api.ErrProof}, {3, 4, ints(1, 3), api.ErrProof}, {4, 0, ints(3, 4), api.ErrProof}, {0, 4, ints(1, 2, 3), api.ErrProof}, {4, 0, ints(0, 1, 2, 3), api.ErrProof}, {0, 4, ints(4), api.ErrProof}, // a link leads out, or the first one is missing
		{0, 4, ints(0, 1, 2, 3, 4), api.ErrProof}, {4, 4, ints(4), api.ErrProof}, {0, 0, ints(0, 1, 2, 3), api.ErrProof}, {0, 1, ints(0, 1, 2, 3), api.ErrProof}, {4, 4, ints(0, 1, 2, 3), api.ErrProof}, // the second one is in it, or is the first one
		{0, 4, nil, api.ErrProof}, {0, 4, ints(), api.ErrProof},
		{0, 4, make([]int, 33), api.ErrMany}, {0, 4, repeated(9, 33), api.ErrMany}, {0, 4, make([]int, 32), api.ErrOrder},
		{0, 4, ints(0, 0, 9), api.ErrOrder}, {0, 4, ints(0, 9, 0), api.ErrUnknown}, {0, 4, ints(1, 0, 2, 3), api.ErrOrder}, {0, 4, ints(0, 1, 2, 3, 3), api.ErrOrder}, {0, 4, ints(-1), api.ErrUnknown}, {0, 4, ints(5), api.ErrUnknown}, {0, 4, ints(math.MaxInt), api.ErrUnknown}, {0, 4, ints(4, math.MinInt), api.ErrUnknown},
	} {
		same(t, "CheckBarrier", mesh.CheckBarrier(shown(), x.from, x.to, x.set), x.e)
	}
	parts := mesh.Mesh{Nodes: names(6), Links: []mesh.Link{joins(0, 3, 1), joins(1, 4, 1)}}
	for _, x := range []struct {
		set []int
		e   api.Errno
	}{{ints(0, 3), api.OK}, {ints(0, 2, 3), api.OK}, {ints(0, 2, 3, 5), api.OK}, {ints(0, 1, 3), api.ErrProof}, {ints(0, 1, 3, 4), api.ErrProof}, {ints(0, 3, 4), api.ErrProof}} { // it need not have the fewest nodes
		same(t, "CheckBarrier of many nodes", mesh.CheckBarrier(parts, 0, 4, x.set), x.e)
	}
	same(t, "CheckBarrier of all nodes", mesh.CheckBarrier(mesh.Mesh{Nodes: names(32)}, 31, 0, func() (l []int) {
		for i := 1; i < 32; i++ {
			l = append(l, i)
		}
		return l
	}()), api.OK)
	for _, x := range endErrors {
		same(t, "CheckBarrier between nodes of which one is none", mesh.CheckBarrier(shown(), x[0], x[1], make([]int, 33)), api.ErrUnknown)
	}
	for _, x := range meshErrors() {
		same(t, "CheckBarrier with errors", all(mesh.CheckBarrier(x.m, 0, 1, ints(0)), mesh.CheckBarrier(x.m, -1, -1, ints(-1))), all(x.e, x.e))
	}
}

// TestRoutesOneByOne compares routes with their definition, step by step.
func TestRoutesOneByOne(t *testing.T) {
	r := rand.New(rand.NewSource(4))
	for range 1500 {
		m, s := randomState(t, r)
		var routed []int
		for node := range m.Nodes {
			want, wanted := routeByHand(s, node), api.ErrNone
			if want != nil {
				routed = append(routed, node)
				wanted = api.OK
			}
			l, e := mesh.Route(m, s, node)
			same(t, "Route", all(l, e), all(want, wanted))
		}
		l, e := mesh.Routed(m, s)
		same(t, "Routed", all(l, e), all(routed, api.OK))
	}
}

// TestBarriersOneByOne compares what is reached, and barriers, with distances, and examines all sets of few nodes.
func TestBarriersOneByOne(t *testing.T) {
	for _, m := range manyMeshes() {
		far := distances(m)
		for from := range m.Nodes {
			var near []int
			for to, d := range far[from] {
				if d >= 0 {
					near = append(near, to)
				}
			}
			l, e := mesh.Reached(m, from)
			same(t, "Reached", all(l, e), all(near, api.OK))
			for to, d := range far[from] {
				want, wanted := near, api.OK
				if d >= 0 {
					want, wanted = nil, api.ErrRule
				}
				l, e := mesh.Barrier(m, from, to)
				same(t, "Barrier", all(l, e), all(want, wanted))
				checkAllBarriers(t, m, from, to)
			}
		}
	}
}

// checkAllBarriers examines all sets of nodes of a small mesh.
func checkAllBarriers(t *testing.T, m mesh.Mesh, from, to int) {
	t.Helper()
	if len(m.Nodes) > 4 {
		return
	}
	for bits := range 1 << len(m.Nodes) {
		var set []int
		has := func(node int) bool { return bits>>node&1 == 1 }
		for node := range m.Nodes {
			if has(node) {
				set = append(set, node)
			}
		}
		want := api.OK
		for _, l := range m.Links {
			if has(l.A) != has(l.B) {
				want = api.ErrProof
			}
		}
		if !has(from) || has(to) {
			want = api.ErrProof
		}
		same(t, "CheckBarrier", mesh.CheckBarrier(m, from, to, set), want)
	}
}
