package mesh_test

import (
	"math"
	"testing"

	"kilovar/api"
	"kilovar/mesh"
)

// P5.4

func TestBroken(t *testing.T) {
	without := func(link int) mesh.Mesh {
		return changedMesh(func(m *mesh.Mesh) { m.Links = append(m.Links[:link], m.Links[link+1:]...) })
	}
	next := func(s mesh.State, nodes ...int) mesh.State {
		s.Entries = append([]mesh.Entry{}, s.Entries...)
		for _, node := range nodes {
			s.Entries[node].Next = -1
		}
		return s
	}
	mixed := state(3, 2, entry(2, 8, 2), entry(2, 5, 3), entry(2, 7, 1), entry(2, 0, 3), silent)
	for _, x := range []struct {
		s    mesh.State
		link int
		want mesh.State
	}{
		{calm(), 0, calm()}, {calm(), 1, next(calm(), 2)}, {calm(), 2, next(calm(), 1)}, {calm(), 3, next(calm(), 3)}, {begun(), 1, begun()},
		{mixed, 0, mixed}, {mixed, 1, next(mixed, 0)}, {mixed, 2, next(mixed, 2)}, {mixed, 3, next(mixed, 1)},
	} {
		m, s, e := mesh.Broken(shown(), x.s, x.link)
		same(t, "Broken", all(m, s, e), all(without(x.link), x.want, api.OK))
	}
	m, s, e := mesh.Broken(line(2, 7), state(1, 5, entry(4, 9, 1), entry(5, 0, 1)), 0)
	same(t, "Broken of the last link", all(m.Nodes, m.Links, s, e), all(names(2), []mesh.Link{}, state(1, 5, entry(4, 9, -1), entry(5, 0, 1)), api.OK))
	for _, link := range ints(-1, 4, math.MinInt, math.MaxInt) {
		m, s, e := mesh.Broken(shown(), calm(), link)
		same(t, "Broken of no link", all(m, s, e), all(mesh.Mesh{}, mesh.State{}, api.ErrUnknown))
	}
	eachWrongState(func(m mesh.Mesh, s mesh.State, want api.Errno) {
		for _, link := range ints(0, -1) {
			m, s, e := mesh.Broken(m, s, link)
			same(t, "Broken with errors", all(m, s, e), all(mesh.Mesh{}, mesh.State{}, want))
		}
	})
}

func TestLinked(t *testing.T) {
	for _, l := range []mesh.Link{joins(3, 4, 7), joins(0, 3, 1), joins(0, 4, 100), joins(2, 3, 50)} {
		want := changedMesh(func(m *mesh.Mesh) { m.Links = append(m.Links, l) })
		m, s, e := mesh.Linked(shown(), calm(), l)
		same(t, "Linked", all(m, s, e), all(want, calm(), api.OK))
	}
	for _, x := range []struct {
		l mesh.Link
		e api.Errno
	}{
		{joins(-1, 4, 1), api.ErrUnknown}, {joins(5, 4, 0), api.ErrUnknown}, {joins(3, 5, 0), api.ErrUnknown}, {joins(3, -1, 1), api.ErrUnknown}, {joins(math.MinInt, math.MaxInt, 1), api.ErrUnknown}, {joins(3, math.MaxInt, 1), api.ErrUnknown},
		{joins(4, 3, 0), api.ErrOrder}, {joins(3, 3, 1), api.ErrOrder}, {joins(1, 0, 1), api.ErrOrder}, {joins(0, 1, 0), api.ErrTwice}, {joins(1, 3, 1), api.ErrTwice}, {joins(1, 2, 2), api.ErrTwice},
		{joins(3, 4, 0), api.ErrRange}, {joins(3, 4, 101), api.ErrRange}, {joins(3, 4, math.MinInt), api.ErrRange}, {joins(3, 4, math.MaxInt), api.ErrRange}, {mesh.Link{}, api.ErrOrder},
	} {
		m, s, e := mesh.Linked(shown(), calm(), x.l)
		same(t, "Linked with errors", all(m, s, e), all(mesh.Mesh{}, mesh.State{}, x.e))
	}
	eachWrongState(func(m mesh.Mesh, s mesh.State, want api.Errno) {
		for _, l := range []mesh.Link{joins(0, 2, 1), {}} {
			m, s, e := mesh.Linked(m, s, l)
			same(t, "Linked with errors", all(m, s, e), all(mesh.Mesh{}, mesh.State{}, want))
		}
	})
}

// TestLinkedTooOften fills a mesh with links: an error of the link comes before that of their number.
func TestLinkedTooOften(t *testing.T) {
	for _, x := range []struct {
		links int
		l     mesh.Link
		e     api.Errno
	}{{127, joins(30, 31, 1), api.OK}, {128, joins(30, 31, 1), api.ErrMany}, {128, joins(31, 30, 1), api.ErrOrder}, {128, joins(0, 1, 1), api.ErrTwice}, {128, joins(30, 31, 0), api.ErrRange}, {128, joins(30, 32, 1), api.ErrUnknown}} {
		m := mesh.Mesh{Nodes: names(32), Links: links(x.links)}
		m, s, e := mesh.Linked(m, value(mesh.Begun(m, 0)), x.l)
		same(t, "Linked of many links", e, x.e)
		if x.e == api.OK {
			same(t, "the mesh and its state", all(len(m.Links), m.Links[127], mesh.CheckState(m, s)), all(128, x.l, api.OK))
		}
	}
}

func TestJoined(t *testing.T) {
	for _, x := range []struct {
		name     string
		to, cost int
	}{{"f", 3, 6}, {"C", 0, 1}, {"abcdefghijklmnopqrstuvwx", 4, 100}} {
		wantM := changedMesh(func(m *mesh.Mesh) {
			m.Nodes, m.Links = append(m.Nodes, x.name), append(m.Links, joins(x.to, 5, x.cost))
		})
		wantS := changedState(func(s *mesh.State) { s.Entries = append(s.Entries, silent) })
		m, s, e := mesh.Joined(shown(), calm(), x.name, x.to, x.cost)
		same(t, "Joined", all(m, s, e), all(wantM, wantS, api.OK))
	}
	for _, x := range []struct {
		name     string
		to, cost int
		e        api.Errno
	}{
		{"", 9, 0, api.ErrName}, {"1f", 9, 0, api.ErrName}, {"f g", 3, 6, api.ErrName}, {"abcdefghijklmnopqrstuvwxy", 3, 6, api.ErrName}, {"\xff", 3, 6, api.ErrName}, {"a", 9, 0, api.ErrTwice}, {"c", 3, 6, api.ErrTwice}, {"e", 3, 6, api.ErrTwice},
		{"f", 5, 0, api.ErrUnknown}, {"f", -1, 0, api.ErrUnknown}, {"f", math.MinInt, 1, api.ErrUnknown}, {"f", math.MaxInt, 1, api.ErrUnknown}, {"f", 3, 0, api.ErrRange}, {"f", 3, 101, api.ErrRange}, {"f", 3, math.MinInt, api.ErrRange}, {"f", 3, math.MaxInt, api.ErrRange},
	} {
		m, s, e := mesh.Joined(shown(), calm(), x.name, x.to, x.cost)
		same(t, "Joined with errors", all(m, s, e), all(mesh.Mesh{}, mesh.State{}, x.e))
	}
	eachWrongState(func(m mesh.Mesh, s mesh.State, want api.Errno) {
		for _, name := range []string{"f", ""} {
			m, s, e := mesh.Joined(m, s, name, 0, 1)
			same(t, "Joined with errors", all(m, s, e), all(mesh.Mesh{}, mesh.State{}, want))
		}
	})
}

// TestJoinedTooOften fills a mesh with nodes, or with links: errors of the arguments come before those of their numbers.
func TestJoinedTooOften(t *testing.T) {
	for _, x := range []struct {
		nodes, links int
		name         string
		to, cost     int
		e            api.Errno
	}{
		{31, 0, "f", 30, 1, api.OK}, {32, 0, "f", 31, 1, api.ErrMany}, {20, 128, "f", 0, 1, api.ErrMany}, {20, 127, "f", 0, 1, api.OK}, {32, 128, "f", 0, 1, api.ErrMany},
		{32, 128, "", 0, 1, api.ErrName}, {32, 128, "n31", 0, 1, api.ErrTwice}, {32, 128, "f", 32, 1, api.ErrUnknown}, {32, 128, "f", 0, 101, api.ErrRange},
	} {
		m := mesh.Mesh{Nodes: names(x.nodes)}
		for _, l := range links(256) {
			if l.B < x.nodes && len(m.Links) < x.links {
				m.Links = append(m.Links, l)
			}
		}
		same(t, "the links", len(m.Links), x.links)
		m, s, e := mesh.Joined(m, value(mesh.Begun(m, 0)), x.name, x.to, x.cost)
		same(t, "Joined of many", e, x.e)
		if x.e == api.OK {
			same(t, "the mesh and its state", all(len(m.Nodes), len(m.Links), m.Links[x.links], mesh.CheckState(m, s)), all(x.nodes+1, x.links+1, joins(x.to, x.nodes, x.cost), api.OK))
		}
	}
}

func TestElected(t *testing.T) {
	for _, x := range []struct {
		s    mesh.State
		node int
		want mesh.State
	}{
		{calm(), 3, state(3, 2, entry(1, 0, -1), entry(1, 3, 2), entry(1, 1, 0), entry(2, 0, 3), silent)},
		{calm(), 1, state(1, 2, entry(1, 0, -1), entry(2, 0, 1), entry(1, 1, 0), entry(1, 8, 1), silent)},
		{calm(), 4, state(4, 2, entry(1, 0, -1), entry(1, 3, 2), entry(1, 1, 0), entry(1, 8, 1), entry(2, 0, 4))},
		{state(3, 7, entry(2, 8, 2), entry(2, 5, -1), entry(2, 7, 1), entry(7, 0, 3), silent), 0, state(0, 8, entry(8, 0, 0), entry(2, 5, -1), entry(2, 7, 1), entry(7, 0, -1), silent)},
		{state(0, 999999, entry(999999, 0, 0), silent, silent, silent, silent), 2, state(2, 1000000, entry(999999, 0, -1), silent, entry(1000000, 0, 2), silent, silent)},
	} {
		s, e := mesh.Elected(shown(), x.s, x.node)
		same(t, "Elected", all(s, e), all(x.want, api.OK))
	}
	last := state(0, 1000000, entry(1000000, 0, 0), silent, silent, silent, silent)
	for _, x := range []struct {
		s    mesh.State
		node int
		e    api.Errno
	}{{calm(), 0, api.ErrTwice}, {last, 0, api.ErrTwice}, {last, 1, api.ErrLimit}, {last, 5, api.ErrUnknown}, {calm(), 5, api.ErrUnknown}, {calm(), -1, api.ErrUnknown}, {calm(), math.MinInt, api.ErrUnknown}, {calm(), math.MaxInt, api.ErrUnknown}} {
		s, e := mesh.Elected(shown(), x.s, x.node)
		same(t, "Elected with errors", all(s, e), all(mesh.State{}, x.e))
	}
	eachWrongState(func(m mesh.Mesh, s mesh.State, want api.Errno) {
		for _, node := range ints(1, -1) {
			s, e := mesh.Elected(m, s, node)
			same(t, "Elected with errors", all(s, e), all(mesh.State{}, want))
		}
	})
}

func TestFlooded(t *testing.T) {
	for _, x := range []struct {
		from   int
		lost   [][2]int
		rounds []int
		sent   int
	}{
		{3, nil, ints(2, 1, 2, 0, -1), 4}, {0, nil, ints(0, 1, 1, 2, -1), 4}, {4, nil, ints(-1, -1, -1, -1, 0), 1},
		{3, pairs([2]int{0, 1}), ints(3, 1, 2, 0, -1), 4}, {3, pairs([2]int{1, 0}), ints(2, 1, 2, 0, -1), 4}, {3, pairs([2]int{1, 3}), ints(-1, -1, -1, 0, -1), 1}, {3, pairs([2]int{3, 1}), ints(2, 1, 2, 0, -1), 4},
		{3, pairs([2]int{0, 1}, [2]int{0, 2}), ints(-1, 1, 2, 0, -1), 3}, {3, pairs([2]int{0, 4}, [2]int{4, 3}, [2]int{3, 3}), ints(2, 1, 2, 0, -1), 4}, {0, repeated([2]int{1, 0}, 256), ints(0, 2, 1, 3, -1), 4},
	} {
		l, n, e := mesh.Flooded(shown(), x.from, x.lost)
		same(t, "Flooded", all(l, n, e), all(x.rounds, x.sent, api.OK))
	}
	l, n, e := mesh.Flooded(line(32, 100), 0, nil)
	same(t, "Flooded on a line", all(l[31], n, e), all(31, 32, api.OK))
	for _, node := range ints(-1, 5, math.MinInt, math.MaxInt) {
		l, n, e := mesh.Flooded(shown(), node, make([][2]int, 257))
		same(t, "Flooded from no node", all(l, n, e), all(ints(), 0, api.ErrUnknown))
	}
	for _, x := range pairErrors {
		l, n, e := mesh.Flooded(shown(), 3, x.lost)
		same(t, "Flooded with errors", all(l, n, e), all(ints(), 0, x.e))
	}
	for _, x := range meshErrors() {
		for _, node := range ints(0, -1) {
			l, n, e := mesh.Flooded(x.m, node, nil)
			same(t, "Flooded with errors", all(l, n, e), all(ints(), 0, x.e))
		}
	}
}
