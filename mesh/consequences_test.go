package mesh_test

import (
	"math/rand"
	"slices"
	"testing"

	"kilovar/api"
	"kilovar/mesh"
)

// P5.6

// TestRoutesNeverLoop leads meshes through changes: each state leads on, no route has a node twice, and no entry becomes worse.
func TestRoutesNeverLoop(t *testing.T) {
	r := rand.New(rand.NewSource(5))
	for range 300 {
		n := 1 + r.Intn(8)
		m := randomMesh(r, n, r.Intn(16))
		s := value(mesh.Begun(m, r.Intn(n)))
		for range 60 {
			before := s
			m, s = change(t, r, m, s)
			same(t, "CheckState", mesh.CheckState(m, s), api.OK)
			checkNoLoop(t, m, s)
			for node, x := range before.Entries {
				if y := s.Entries[node]; y.Number < x.Number || y.Number == x.Number && y.Distance > x.Distance {
					t.Fatalf("the entry %v becomes %v", x, y)
				}
			}
		}
	}
}

func checkNoLoop(t *testing.T, m mesh.Mesh, s mesh.State) {
	t.Helper()
	routed := value(mesh.Routed(m, s))
	for _, node := range routed {
		route, e := mesh.Route(m, s, node)
		same(t, "Route: error", e, api.OK)
		if _, e := mesh.Cost(m, route); e != api.OK {
			t.Fatalf("the route %v has the error %d", route, e)
		}
		known := map[int]bool{}
		for _, at := range route {
			if known[at] || !slices.Contains(routed, at) {
				t.Fatalf("%d is twice on the route %v, or not routed", at, route)
			}
			known[at] = true
		}
	}
}

// TestEverybodyIsRouted has, after any changes, a beacon and as many rounds as there are nodes, less 1.
func TestEverybodyIsRouted(t *testing.T) {
	r := rand.New(rand.NewSource(6))
	for range 600 {
		m, s := randomState(t, r)
		checkRoutedAfterBeacon(t, m, s)
	}
	for _, m := range manyMeshes() {
		n := len(m.Nodes)
		s := value(mesh.Begun(m, r.Intn(n)))
		checkRoutedAfterBeacon(t, m, s)
		s, _, _ = mesh.Rounds(m, s)
		checkRoutedAfterBeacon(t, m, s)
		if n > 1 {
			checkRoutedAfterBeacon(t, m, value(mesh.Elected(m, s, (s.Coordinator+1)%n)))
		}
	}
}

func checkRoutedAfterBeacon(t *testing.T, m mesh.Mesh, s mesh.State) {
	t.Helper()
	s, e := mesh.Beaconed(m, s)
	same(t, "Beaconed: error", e, api.OK)
	for range len(m.Nodes) - 1 {
		s, e = mesh.Round(m, s, nil)
		same(t, "Round: error", e, api.OK)
	}
	near := value(mesh.Reached(m, s.Coordinator))
	same(t, "the nodes that are routed", value(mesh.Routed(m, s)), near)
	far := value(mesh.Distances(m, s.Coordinator))
	for _, node := range near {
		cost, e := mesh.Cost(m, value(mesh.Route(m, s, node)))
		same(t, "the cost of a route, and the entry's distance", all(cost, s.Entries[node].Distance, e), all(far[node], far[node], api.OK))
	}
}

// TestALinkMore compares the distances with and without a link.
func TestALinkMore(t *testing.T) {
	r := rand.New(rand.NewSource(7))
	for _, m := range manyMeshes() {
		n := len(m.Nodes)
		s := value(mesh.Begun(m, 0))
		more, _, e := mesh.Linked(m, s, joins(r.Intn(n), r.Intn(n), 1+r.Intn(100)))
		if e != api.OK {
			continue
		}
		for node := range n {
			with := value(mesh.Distances(more, node))
			for i, d := range value(mesh.Distances(m, node)) {
				if d >= 0 && (with[i] < 0 || with[i] > d) {
					t.Fatalf("the distance %d becomes %d", d, with[i])
				}
			}
		}
	}
}

// TestARouteOrABarrier has one of both between all two nodes, and never both.
func TestARouteOrABarrier(t *testing.T) {
	for _, m := range manyMeshes() {
		for from := range m.Nodes {
			near := value(mesh.Reached(m, from))
			for to := range m.Nodes {
				set, e := mesh.Barrier(m, from, to)
				if slices.Contains(near, to) {
					same(t, "Barrier beside a route", e, api.ErrRule)
					continue
				}
				same(t, "Barrier, and CheckBarrier of it", all(e, mesh.CheckBarrier(m, from, to, set)), all(api.OK, api.OK))
			}
		}
	}
}

// TestFloods compares floods with their definition, step by step; one in which nothing is lost gets to all nodes that are reached.
func TestFloods(t *testing.T) {
	r := rand.New(rand.NewSource(8))
	for _, m := range manyMeshes() {
		for from := range m.Nodes {
			l, n, e := mesh.Flooded(m, from, nil)
			near := value(mesh.Reached(m, from))
			same(t, "Flooded", all(l, n, e), all(floodedByHand(m, from, nil), len(near), api.OK))
			for node, round := range l {
				same(t, "a node is reached", round >= 0, slices.Contains(near, node))
			}
			lost := randomPairs(r, len(m.Nodes), 200)
			want := floodedByHand(m, from, lost)
			senders := 0
			for _, round := range want {
				if round >= 0 {
					senders++
				}
			}
			l, n, e = mesh.Flooded(m, from, lost)
			same(t, "Flooded with losses", all(l, n, e), all(want, senders, api.OK))
		}
	}
}

func TestMeshesAreParsedAsTheyWerePrinted(t *testing.T) {
	for _, m := range manyMeshes() {
		text, e := mesh.Print(m)
		same(t, "Print: error", e, api.OK)
		got, i, e := mesh.Parse(text)
		same(t, "Parse", all(got, i, e), all(m, 0, api.OK))
	}
}
