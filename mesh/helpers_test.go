package mesh_test

import (
	"fmt"
	"math"
	"math/rand"
	"slices"
	"strconv"
	"testing"

	"kilovar/api"
	"kilovar/mesh"
)

// same compares results with the expected ones; nil and empty lists are equal.
func same(t *testing.T, what string, got, want any) {
	t.Helper()
	if g, w := fmt.Sprintf("%+v", got), fmt.Sprintf("%+v", want); g != w {
		t.Errorf("%s: got %s, want %s", what, g, w)
	}
}

// all returns all results of a call in one.
func all(results ...any) []any { return results }

// value returns a result whose error another test examines.
func value[T any](x T, _ api.Errno) T { return x }

func ints(l ...int) []int { return l }

func pairs(l ...[2]int) [][2]int { return l }

func repeated[T any](x T, n int) []T {
	var out []T
	for range n {
		out = append(out, x)
	}
	return out
}

func joins(a, b, cost int) mesh.Link { return mesh.Link{A: a, B: b, Cost: cost} }

func entry(number, distance, next int) mesh.Entry {
	return mesh.Entry{Number: number, Distance: distance, Next: next}
}

// silent is the entry of a node that has heard nothing.
var silent = entry(0, 0, -1)

// shown returns the mesh M of the examples.
func shown() mesh.Mesh {
	return mesh.Mesh{Nodes: []string{"c", "a", "b", "d", "e"}, Links: []mesh.Link{joins(0, 1, 4), joins(0, 2, 1), joins(1, 2, 2), joins(1, 3, 5)}}
}

func state(coordinator, number int, l ...mesh.Entry) mesh.State {
	return mesh.State{Coordinator: coordinator, Number: number, Entries: l}
}

// begun returns the state of M at the beginning, with the coordinator 0.
func begun() mesh.State {
	return state(0, 1, entry(1, 0, 0), silent, silent, silent, silent)
}

// calm returns the state of M after three rounds.
func calm() mesh.State {
	return state(0, 1, entry(1, 0, 0), entry(1, 3, 2), entry(1, 1, 0), entry(1, 8, 1), silent)
}

// names returns n names that differ.
func names(n int) []string {
	var out []string
	for i := range n {
		out = append(out, "n"+strconv.Itoa(i))
	}
	return out
}

// links returns n links of 32 nodes.
func links(n int) []mesh.Link {
	var out []mesh.Link
	for a := range 32 {
		for b := a + 1; b < 32 && len(out) < n; b++ {
			out = append(out, joins(a, b, 1+(a+b)%100))
		}
	}
	return out
}

// line returns a mesh of n nodes, each linked to the next one.
func line(n, cost int) mesh.Mesh {
	m := mesh.Mesh{Nodes: names(n)}
	for i := range n - 1 {
		m.Links = append(m.Links, joins(i, i+1, cost))
	}
	return m
}

// changedMesh returns M after a change.
func changedMesh(change func(m *mesh.Mesh)) mesh.Mesh {
	m := shown()
	change(&m)
	return m
}

// changedState returns the calm state of M after a change.
func changedState(change func(s *mesh.State)) mesh.State {
	s := calm()
	change(&s)
	return s
}

// meshErrors are meshes that are none, and their errors.
func meshErrors() []meshError {
	full := func(n, k int) mesh.Mesh { return mesh.Mesh{Nodes: names(n), Links: links(k)} }
	with := func(links ...mesh.Link) mesh.Mesh { return mesh.Mesh{Nodes: names(3), Links: links} }
	return []meshError{
		{full(33, 0), api.ErrMany}, {mesh.Mesh{Nodes: make([]string, 33)}, api.ErrMany}, {full(32, 129), api.ErrMany}, {mesh.Mesh{Nodes: names(2), Links: make([]mesh.Link, 129)}, api.ErrMany},
		{mesh.Mesh{Nodes: []string{""}, Links: make([]mesh.Link, 129)}, api.ErrName}, {mesh.Mesh{Nodes: make([]string, 33), Links: make([]mesh.Link, 129)}, api.ErrMany},
		{mesh.Mesh{Nodes: []string{"a", "1"}}, api.ErrName}, {mesh.Mesh{Nodes: []string{"a", "b c"}}, api.ErrName}, {mesh.Mesh{Nodes: []string{"abcdefghijklmnopqrstuvwxy"}}, api.ErrName}, {mesh.Mesh{Nodes: []string{"", ""}}, api.ErrName},
		{mesh.Mesh{Nodes: []string{"a", "b", "a", ""}}, api.ErrTwice}, {mesh.Mesh{Nodes: []string{"a", "", "a"}}, api.ErrName}, {mesh.Mesh{Nodes: []string{"a", "a"}, Links: make([]mesh.Link, 129)}, api.ErrTwice},
		{with(joins(-1, 1, 1)), api.ErrUnknown}, {with(joins(3, 1, 1)), api.ErrUnknown}, {with(joins(0, 3, 1)), api.ErrUnknown}, {with(joins(0, -1, 1)), api.ErrUnknown}, {with(joins(math.MinInt, math.MaxInt, 1)), api.ErrUnknown}, {with(joins(0, math.MaxInt, 0)), api.ErrUnknown},
		{with(joins(1, 1, 0)), api.ErrOrder}, {with(joins(2, 1, 0)), api.ErrOrder}, {with(joins(0, 0, 1)), api.ErrOrder}, {with(joins(0, 1, 1), joins(1, 0, 1)), api.ErrOrder},
		{with(joins(0, 1, 1), joins(0, 1, 2)), api.ErrTwice}, {with(joins(0, 1, 1), joins(1, 2, 1), joins(0, 1, 101)), api.ErrTwice}, {with(joins(0, 1, 1), joins(0, 1, 1)), api.ErrTwice},
		{with(joins(0, 1, 0)), api.ErrRange}, {with(joins(0, 1, 101)), api.ErrRange}, {with(joins(0, 1, -1)), api.ErrRange}, {with(joins(0, 1, math.MaxInt)), api.ErrRange}, {with(joins(0, 1, math.MinInt)), api.ErrRange},
		{with(joins(0, 1, 0), joins(0, 1, 1)), api.ErrRange}, {with(joins(0, 1, 101), joins(5, 5, 5)), api.ErrRange}, {with(joins(0, 1, 1), joins(0, 3, 1), joins(0, 1, 1)), api.ErrUnknown},
		{mesh.Mesh{Links: []mesh.Link{joins(0, 1, 1)}}, api.ErrUnknown},
	}
}

type meshError struct {
	m mesh.Mesh
	e api.Errno
}

// stateErrors are states of M that are none, and their errors.
func stateErrors() []stateError {
	at := func(node int, x mesh.Entry) mesh.State {
		return changedState(func(s *mesh.State) { s.Entries[node] = x })
	}
	bad := state(-1, 0)
	return []stateError{
		{bad, api.ErrUnknown}, {state(5, 0), api.ErrUnknown}, {state(math.MinInt, 1), api.ErrUnknown}, {state(math.MaxInt, 1), api.ErrUnknown},
		{state(0, 0), api.ErrRange}, {state(0, 1000001), api.ErrRange}, {state(0, -1), api.ErrRange}, {state(0, math.MaxInt), api.ErrRange}, {state(0, math.MinInt), api.ErrRange},
		{state(0, 1), api.ErrShape}, {state(0, 1, calm().Entries[:4]...), api.ErrShape}, {state(0, 1, append(calm().Entries, silent)...), api.ErrShape}, {state(0, 1, entry(9, 9, 9)), api.ErrShape},
		{at(1, entry(2, 3, 2)), api.ErrRange}, {at(1, entry(-1, 3201, 9)), api.ErrRange}, {at(1, entry(math.MaxInt, 0, 0)), api.ErrRange}, {at(1, entry(1, 3201, 9)), api.ErrRange}, {at(1, entry(1, -1, 9)), api.ErrRange}, {at(1, entry(1, math.MaxInt, 2)), api.ErrRange}, {at(1, entry(1, math.MinInt, 2)), api.ErrRange},
		{at(1, entry(1, 3, 5)), api.ErrUnknown}, {at(1, entry(1, 3, -2)), api.ErrUnknown}, {at(1, entry(0, 3, 5)), api.ErrUnknown}, {at(1, entry(1, 3, math.MaxInt)), api.ErrUnknown}, {at(1, entry(1, 3, math.MinInt)), api.ErrUnknown}, {at(0, entry(1, 0, 5)), api.ErrUnknown},
		{at(0, entry(0, 0, 0)), api.ErrForm}, {at(0, entry(1, 1, 0)), api.ErrForm}, {at(0, entry(1, 0, -1)), api.ErrForm}, {at(0, entry(1, 0, 1)), api.ErrForm}, {at(0, silent), api.ErrForm}, {at(0, entry(2, 0, 0)), api.ErrRange}, {at(0, entry(1, 3201, 0)), api.ErrRange},
		{at(4, entry(0, 1, -1)), api.ErrForm}, {at(3, entry(0, 0, 1)), api.ErrForm}, {at(3, entry(0, 8, 1)), api.ErrForm}, {at(3, entry(0, 0, 4)), api.ErrForm},
		{at(1, entry(1, 3, 4)), api.ErrNone}, {at(1, entry(1, 3, 1)), api.ErrNone}, {at(4, entry(1, 3, 0)), api.ErrNone}, {at(3, entry(1, 3, 0)), api.ErrNone},
		{at(1, entry(1, 2, 2)), api.ErrCycle}, {at(2, entry(1, 0, 0)), api.ErrCycle}, {at(1, entry(1, 4, 2)), api.ErrCycle}, {at(2, entry(1, 2, 0)), api.ErrCycle}, {at(2, entry(1, 5, 1)), api.ErrCycle}, {at(1, silent), api.ErrCycle}, {at(1, entry(1, 4, -1)), api.ErrCycle},
		{changedState(func(s *mesh.State) { s.Entries[1], s.Entries[2] = entry(1, 3, 2), entry(1, 5, 1) }), api.ErrCycle},
		{changedState(func(s *mesh.State) { s.Entries[1].Distance, s.Entries[2].Number = 0, 2 }), api.ErrRange}, {changedState(func(s *mesh.State) { s.Entries[1].Distance, s.Entries[4].Next = 0, 0 }), api.ErrForm}, // what does not lead on comes last
		{changedState(func(s *mesh.State) { s.Entries[1].Next, s.Entries[2].Number = 4, 2 }), api.ErrNone}, {changedState(func(s *mesh.State) { s.Entries[1].Number, s.Entries[2].Next = 2, 4 }), api.ErrRange},
		{state(1, 1, calm().Entries...), api.ErrNone}, {state(0, 2, calm().Entries...), api.ErrForm}, {changedState(func(s *mesh.State) { s.Coordinator, s.Entries[0].Next = 1, -1 }), api.ErrForm},
	}
}

type stateError struct {
	s mesh.State
	e api.Errno
}

// eachWrongState calls a function with all meshes and states of which one is none, and with the error.
func eachWrongState(call func(m mesh.Mesh, s mesh.State, e api.Errno)) {
	for _, x := range meshErrors() {
		call(x.m, calm(), x.e)
		call(x.m, state(-1, 0), x.e)
	}
	for _, x := range stateErrors() {
		call(shown(), x.s, x.e)
	}
}

// pairErrors are pairs of M that are none, and their errors.
var pairErrors = []struct {
	lost [][2]int
	e    api.Errno
}{
	{make([][2]int, 257), api.ErrMany}, {repeated([2]int{9, 9}, 257), api.ErrMany},
	{pairs([2]int{5, 0}), api.ErrUnknown}, {pairs([2]int{0, 5}), api.ErrUnknown}, {pairs([2]int{-1, 0}), api.ErrUnknown}, {pairs([2]int{0, -1}), api.ErrUnknown}, {pairs([2]int{0, 1}, [2]int{math.MinInt, math.MaxInt}), api.ErrUnknown}, {append(make([][2]int, 255), [2]int{0, 5}), api.ErrUnknown},
}

// randomMesh returns a mesh of n nodes; more links than there may be are not asked for.
func randomMesh(r *rand.Rand, n, links int) mesh.Mesh {
	m := mesh.Mesh{Nodes: names(n)}
	known := map[[2]int]bool{}
	for range links {
		a, b := r.Intn(n), r.Intn(n)
		if a > b {
			a, b = b, a
		}
		if a < b && !known[[2]int{a, b}] {
			known[[2]int{a, b}] = true
			m.Links = append(m.Links, joins(a, b, 1+r.Intn([]int{3, 100}[r.Intn(2)])))
		}
	}
	return m
}

func randomPairs(r *rand.Rand, n, most int) [][2]int {
	var out [][2]int
	for range r.Intn(most + 1) {
		out = append(out, [2]int{r.Intn(n), r.Intn(n)})
	}
	return out
}

// change leads a mesh and its state to the next ones, or leaves them as they are.
func change(t *testing.T, r *rand.Rand, m mesh.Mesh, s mesh.State) (mesh.Mesh, mesh.State) {
	t.Helper()
	n := len(m.Nodes)
	next, after, e := m, s, api.OK
	switch r.Intn(8) {
	case 0:
		after, e = mesh.Beaconed(m, s)
	case 1:
		after, e = mesh.Heard(m, s, r.Intn(n), r.Intn(n))
	case 2, 3:
		after, e = mesh.Round(m, s, randomPairs(r, n, 2*n))
	case 4:
		next, after, e = mesh.Broken(m, s, r.Intn(len(m.Links)+1))
	case 5:
		next, after, e = mesh.Linked(m, s, joins(r.Intn(n), r.Intn(n), 1+r.Intn(100)))
	case 6:
		next, after, e = mesh.Joined(m, s, "j"+strconv.Itoa(r.Intn(40)), r.Intn(n), 1+r.Intn(100))
	case 7:
		after, e = mesh.Elected(m, s, r.Intn(n))
	}
	if e != api.OK {
		if !slices.Contains([]api.Errno{api.ErrNone, api.ErrUnknown, api.ErrOrder, api.ErrTwice, api.ErrMany}, e) {
			t.Fatalf("error %d", e)
		}
		return m, s
	}
	return next, after
}

// randomState returns a mesh and a state after some changes.
func randomState(t *testing.T, r *rand.Rand) (mesh.Mesh, mesh.State) {
	t.Helper()
	n := 1 + r.Intn(9)
	m := randomMesh(r, n, r.Intn(20))
	s := value(mesh.Begun(m, r.Intn(n)))
	for range r.Intn(40) {
		m, s = change(t, r, m, s)
	}
	return m, s
}
