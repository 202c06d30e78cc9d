package mesh_test

import (
	"fmt"
	"math"
	"math/rand"
	"reflect"
	"testing"

	"kilovar/api"
	"kilovar/mesh"
)

// P1: every function terminates and never panics, for all arguments; they are not modified, and results share no memory with them.

// arguments has one of each kind that functions take.
type arguments struct {
	m     mesh.Mesh
	s     mesh.State
	x, y  int
	route []int
	lost  [][2]int
	l     mesh.Link
	name  string
	cost  int
	text  string
}

// calls calls all functions, and returns their results.
func calls(a arguments) []any {
	var out []any
	add := func(results ...any) { out = append(out, results...) }
	add(mesh.CheckMesh(a.m), mesh.CheckState(a.m, a.s), mesh.CheckBarrier(a.m, a.x, a.y, a.route))
	l, e := mesh.Neighbours(a.m, a.x)
	add(l, e)
	n, e := mesh.Cost(a.m, a.route)
	add(n, e)
	l, e = mesh.Distances(a.m, a.x)
	add(l, e)
	l, n, e = mesh.Flooded(a.m, a.x, a.lost)
	add(l, n, e)
	l, e = mesh.Reached(a.m, a.x)
	add(l, e)
	l, e = mesh.Barrier(a.m, a.x, a.y)
	add(l, e)
	text, e := mesh.Print(a.m)
	add(text, e)
	m, n, e := mesh.Parse(a.text)
	add(m, n, e)
	return append(out, stateCalls(a)...)
}

func stateCalls(a arguments) []any {
	var out []any
	add := func(results ...any) { out = append(out, results...) }
	s, e := mesh.Begun(a.m, a.x)
	add(s, e)
	s, e = mesh.Beaconed(a.m, a.s)
	add(s, e)
	s, e = mesh.Heard(a.m, a.s, a.x, a.y)
	add(s, e)
	s, e = mesh.Round(a.m, a.s, a.lost)
	add(s, e)
	s, n, e := mesh.Rounds(a.m, a.s)
	add(s, n, e)
	l, e := mesh.Route(a.m, a.s, a.x)
	add(l, e)
	l, e = mesh.Routed(a.m, a.s)
	add(l, e)
	m, s, e := mesh.Broken(a.m, a.s, a.x)
	add(m, s, e)
	m, s, e = mesh.Linked(a.m, a.s, a.l)
	add(m, s, e)
	m, s, e = mesh.Joined(a.m, a.s, a.name, a.x, a.cost)
	add(m, s, e)
	s, e = mesh.Elected(a.m, a.s, a.y)
	add(s, e)
	return out
}

// visitLists visits all lists in a value that are not empty, those in lists and structures, too.
func visitLists(v reflect.Value, visit func(v reflect.Value)) {
	switch {
	case v.Kind() == reflect.Struct:
		for i := range v.NumField() {
			visitLists(v.Field(i), visit)
		}
	case v.Kind() == reflect.Slice && v.Len() > 0:
		for i := range v.Len() {
			visitLists(v.Index(i), visit)
		}
		visit(v)
	}
}

// spoil changes all elements of all lists among values.
func spoil(values ...any) {
	for _, x := range values {
		visitLists(reflect.ValueOf(x), func(v reflect.Value) {
			for i := range v.Len() {
				v.Index(i).SetZero()
			}
		})
	}
}

func anyInt(r *rand.Rand) int {
	return []int{r.Intn(3), r.Intn(20) - 1, r.Intn(5000) - 10, math.MinInt, math.MaxInt, int(r.Uint64())}[r.Intn(6)]
}

// spoiltBy returns a number, or now and then any one.
func spoiltBy(r *rand.Rand, x int) int {
	if r.Intn(200) > 0 {
		return x
	}
	return anyInt(r)
}

func anyName(r *rand.Rand) string {
	return []string{"f", "g_1", "n0", "", "a b", "\xff", "abcdefghijklmnopqrstuvwxy"}[r.Intn(7)]
}

func spoiltMesh(r *rand.Rand, m mesh.Mesh) mesh.Mesh {
	for i := range m.Nodes {
		if r.Intn(100) == 0 {
			m.Nodes[i] = anyName(r)
		}
	}
	for i := range m.Links {
		l := &m.Links[i]
		l.A, l.B, l.Cost = spoiltBy(r, l.A), spoiltBy(r, l.B), spoiltBy(r, l.Cost)
	}
	return m
}

func spoiltState(r *rand.Rand, s mesh.State) mesh.State {
	s.Coordinator, s.Number = spoiltBy(r, s.Coordinator), spoiltBy(r, s.Number)
	for i := range s.Entries {
		x := &s.Entries[i]
		x.Number, x.Distance, x.Next = spoiltBy(r, x.Number), spoiltBy(r, x.Distance), spoiltBy(r, x.Next)
	}
	return s
}

func anyText(r *rand.Rand, m mesh.Mesh) string {
	text, _ := mesh.Print(m)
	if text != "" && r.Intn(3) > 0 {
		at := r.Intn(len(text))
		text = text[:at] + []string{"", " ", "\n", "-", "0", "\xff"}[r.Intn(6)] + text[at+r.Intn(2):]
	}
	for range r.Intn(3) * r.Intn(2) {
		text += []string{"node", "link", " ", "\n", "1", "0", " 2", "\xff", "link 0 1 2\n", "node f\n"}[r.Intn(10)]
	}
	return text
}

func anyArguments(t *testing.T, seed int64) arguments {
	t.Helper()
	r := rand.New(rand.NewSource(seed))
	m, s := randomState(t, r)
	n := len(m.Nodes)
	a := arguments{x: spoiltBy(r, r.Intn(n)), y: spoiltBy(r, r.Intn(n)), lost: randomPairs(r, n, 9), l: joins(r.Intn(n), r.Intn(n), 1+r.Intn(101)), name: anyName(r), cost: r.Intn(102), text: anyText(r, m)}
	for range r.Intn(2) {
		a.lost = append(a.lost, [2]int{spoiltBy(r, 0), spoiltBy(r, 0)})
	}
	a.route = value(mesh.Route(m, s, r.Intn(n)))
	if r.Intn(3) == 0 {
		a.route = value(mesh.Reached(m, r.Intn(n)))
	}
	if r.Intn(5) == 0 {
		a.route = append(a.route, anyInt(r))
	}
	a.m, a.s = spoiltMesh(r, m), spoiltState(r, s)
	return a
}

// TestAllArguments calls all functions with equal arguments, spoils results, then arguments, and compares what is left.
func TestAllArguments(t *testing.T) {
	for seed := range int64(1500) {
		a := anyArguments(t, seed)
		first := calls(a)
		printed := fmt.Sprint(first)
		spoil(first...)
		if fmt.Sprint(a) != fmt.Sprint(anyArguments(t, seed)) {
			t.Fatalf("the arguments of the seed %d are modified", seed)
		}
		second := calls(a)
		spoil(a.m, a.s, a.route, a.lost)
		if fmt.Sprint(second) != printed {
			t.Fatalf("the results of the seed %d share memory with arguments, or depend on more than them", seed)
		}
	}
}

func TestResultsShareNoMemory(t *testing.T) {
	for seed := range int64(1000) {
		seen := map[uintptr]bool{}
		for _, x := range calls(anyArguments(t, seed)) {
			visitLists(reflect.ValueOf(x), func(v reflect.Value) {
				if seen[v.Pointer()] {
					t.Fatal("two lists of results share memory")
				}
				seen[v.Pointer()] = true
			})
		}
	}
}

// TestRoomBehindArguments has lists with room for more elements: what is behind them stays as it is.
func TestRoomBehindArguments(t *testing.T) {
	m, s := shown(), calm()
	m.Nodes = append(m.Nodes, "x")[:5]
	m.Links = append(m.Links, joins(9, 9, 9))[:4]
	s.Entries = append(s.Entries, entry(9, 9, 9))[:5]
	for range 2 {
		_, _, e := mesh.Joined(m, s, "f", 3, 6)
		same(t, "Joined: error", e, api.OK)
		_, _, e = mesh.Linked(m, s, joins(3, 4, 6))
		same(t, "Linked: error", e, api.OK)
		_, _, e = mesh.Broken(m, s, 1)
		same(t, "Broken: error", e, api.OK)
	}
	same(t, "what is behind the arguments", all(m.Nodes[:6][5], m.Links[:5][4], s.Entries[:6][5]), all("x", joins(9, 9, 9), entry(9, 9, 9)))
	same(t, "the arguments", all(m, s), all(shown(), calm()))
}

func TestNothing(t *testing.T) {
	for _, x := range calls(arguments{}) {
		if e, ok := x.(api.Errno); ok && (e < api.OK || e > api.ErrOld) {
			t.Errorf("error %d", e)
		}
	}
}

// TestManyAndFar calls functions with lists far above their limits.
func TestManyAndFar(t *testing.T) {
	for _, n := range ints(math.MinInt, math.MaxInt) {
		far := arguments{x: n, y: n, cost: n, l: joins(n, n, n), route: repeated(n, 100000), lost: repeated([2]int{n, n}, 100000), name: string(make([]byte, 100000)), text: string(make([]byte, 100000))}
		far.m = mesh.Mesh{Nodes: make([]string, 100000), Links: repeated(joins(n, n, n), 100000)}
		far.s = state(n, n, repeated(entry(n, n, n), 100000)...)
		for _, x := range calls(far) {
			if e, ok := x.(api.Errno); ok && e == api.OK {
				t.Errorf("no error of the number %d", n)
			}
		}
	}
}

// TestLimits compares the limits with the chapter's.
func TestLimits(t *testing.T) {
	same(t, "the limits", ints(mesh.MaxNodes, mesh.MaxLinks, mesh.MaxCost, mesh.MaxBeacon, mesh.MaxDistance, mesh.MaxLost), ints(32, 128, 100, 1000000, 3200, 256))
}
