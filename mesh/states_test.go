package mesh_test

import (
	"math"
	"math/rand"
	"testing"

	"kilovar/api"
	"kilovar/mesh"
)

// P5.2

func TestStates(t *testing.T) {
	at := func(node int, x mesh.Entry) mesh.State {
		return changedState(func(s *mesh.State) { s.Entries[node] = x })
	}
	for _, s := range []mesh.State{
		calm(), begun(), at(1, entry(1, 3, -1)), at(3, entry(1, 3200, 1)), at(3, entry(1, 0, -1)), at(3, silent), at(3, entry(1, 3200, -1)), at(2, entry(1, 1, -1)), at(4, entry(1, 3200, -1)),
		state(0, 1000000, entry(1000000, 0, 0), silent, silent, silent, silent),
		state(0, 9, entry(9, 0, 0), entry(3, 0, 2), entry(4, 7, 0), entry(2, 0, 1), entry(9, 1, -1)), // numbers that grow need no distances that fall
		state(0, 9, entry(9, 0, 0), entry(3, 5, 2), entry(3, 3, -1), entry(3, 10, 1), silent),
		state(3, 2, entry(1, 0, -1), entry(1, 3, 2), entry(1, 1, 0), entry(2, 0, 3), silent),
	} {
		same(t, "CheckState", mesh.CheckState(shown(), s), api.OK)
	}
	eachWrongState(func(m mesh.Mesh, s mesh.State, e api.Errno) {
		same(t, "CheckState with errors", mesh.CheckState(m, s), e)
	})
	same(t, "CheckState of nothing", mesh.CheckState(mesh.Mesh{}, mesh.State{Number: 1}), api.ErrUnknown)
}

// TestLeadingOn examines by how much distances must fall, or numbers grow.
func TestLeadingOn(t *testing.T) {
	for _, x := range []struct {
		node, next mesh.Entry
		e          api.Errno
	}{
		{entry(5, 12, 1), entry(5, 5, -1), api.OK}, {entry(5, 11, 1), entry(5, 5, -1), api.ErrCycle}, {entry(5, 13, 1), entry(5, 5, -1), api.OK}, {entry(5, 0, 1), entry(6, 3200, -1), api.OK},
		{entry(5, 3200, 1), entry(4, 0, -1), api.ErrCycle}, {entry(5, 3200, 1), silent, api.ErrCycle}, {entry(5, 7, 1), entry(5, 0, -1), api.OK}, {entry(5, 6, 1), entry(5, 0, -1), api.ErrCycle}, {entry(5, 3200, 1), entry(5, 3200, -1), api.ErrCycle},
		{entry(5, 6, -1), entry(5, 13, 2), api.OK}, {entry(5, 7, -1), entry(5, 13, 2), api.ErrCycle}, {entry(5, 3200, 1), entry(5, 3200, 2), api.ErrCycle}, {entry(5, 20, 1), entry(6, 20, 2), api.ErrCycle},
	} {
		m := mesh.Mesh{Nodes: names(3), Links: []mesh.Link{joins(0, 1, 1), joins(1, 2, 7)}}
		same(t, "CheckState", mesh.CheckState(m, state(0, 9, entry(9, 0, 0), x.next, entry(x.node.Number, x.node.Distance, x.node.Next))), x.e)
	}
}

func TestBegun(t *testing.T) {
	s, e := mesh.Begun(shown(), 0)
	same(t, "Begun", all(s, e), all(begun(), api.OK))
	s, e = mesh.Begun(shown(), 3)
	same(t, "Begun", all(s, e), all(state(3, 1, silent, silent, silent, entry(1, 0, 3), silent), api.OK))
	for _, node := range ints(-1, 5, math.MinInt, math.MaxInt) {
		s, e := mesh.Begun(shown(), node)
		same(t, "Begun of no node", all(s, e), all(mesh.State{}, api.ErrUnknown))
	}
	for _, x := range meshErrors() {
		for _, node := range ints(0, -1) {
			s, e := mesh.Begun(x.m, node)
			same(t, "Begun with errors", all(s, e), all(mesh.State{}, x.e))
		}
	}
}

func TestBeaconed(t *testing.T) {
	want := calm()
	want.Number, want.Entries[0].Number = 2, 2
	s, e := mesh.Beaconed(shown(), calm())
	same(t, "Beaconed", all(s, e), all(want, api.OK))
	late := func(number int) mesh.State {
		return state(1, number, entry(7, 3, -1), entry(number, 0, 1), silent, silent, silent)
	}
	s, e = mesh.Beaconed(shown(), late(999999))
	same(t, "Beaconed for the last time", all(s, e), all(late(1000000), api.OK))
	s, e = mesh.Beaconed(shown(), late(1000000))
	same(t, "Beaconed too often", all(s, e), all(mesh.State{}, api.ErrLimit))
	eachWrongState(func(m mesh.Mesh, s mesh.State, want api.Errno) {
		s, e := mesh.Beaconed(m, s)
		same(t, "Beaconed with errors", all(s, e), all(mesh.State{}, want))
	})
}

func TestHeard(t *testing.T) {
	for _, x := range []struct {
		s        mesh.State
		to, from int
		want     mesh.Entry
	}{
		{begun(), 2, 0, entry(1, 1, 0)}, {begun(), 1, 0, entry(1, 4, 0)}, {begun(), 2, 1, silent}, {begun(), 0, 2, entry(1, 0, 0)},
		{calm(), 0, 1, entry(1, 0, 0)}, {calm(), 1, 0, entry(1, 3, 2)}, {calm(), 1, 2, entry(1, 3, 2)}, {calm(), 1, 3, entry(1, 3, 2)}, {calm(), 3, 1, entry(1, 8, 1)},
		{state(0, 1, entry(1, 0, 0), entry(1, 4, 0), entry(1, 1, 0), silent, silent), 1, 2, entry(1, 3, 2)},              // the same number, and nearer
		{state(0, 1, entry(1, 0, 0), entry(1, 3, -1), entry(1, 1, 0), silent, silent), 1, 2, entry(1, 3, -1)},            // the same number, and as near
		{state(0, 2, entry(2, 0, 0), entry(1, 3, 2), entry(1, 1, 0), silent, silent), 1, 0, entry(2, 4, 0)},              // newer, and farther
		{state(0, 2, entry(2, 0, 0), entry(2, 3000, -1), entry(1, 1, 0), silent, silent), 1, 2, entry(2, 3000, -1)},      // older, and nearer
		{state(0, 2, entry(2, 0, 0), entry(1, 3, -1), silent, silent, silent), 3, 1, silent},                             // no Next: nothing is offered
		{state(0, 2, entry(2, 0, 0), entry(1, 3, -1), silent, silent, silent), 2, 1, silent},                             // no Next: nothing is offered
		{state(0, 1, entry(1, 0, 0), entry(1, 3195, 0), silent, silent, silent), 3, 1, entry(1, 3200, 1)},                // the greatest distance
		{state(0, 1, entry(1, 0, 0), entry(1, 3196, 0), silent, silent, silent), 3, 1, silent},                           // too far
		{state(0, 1, entry(1, 0, 0), entry(1, 3200, 0), silent, silent, silent), 3, 1, silent},                           // too far
		{state(0, 3, entry(3, 0, 0), entry(2, 3195, 0), silent, entry(1, 0, -1), silent), 3, 1, entry(2, 3200, 1)},       // the greatest distance, and newer
		{state(3, 2, entry(1, 0, -1), entry(1, 3, 2), entry(1, 1, 0), entry(2, 0, 3), silent), 1, 3, entry(2, 5, 3)},     // another coordinator
		{state(3, 2, entry(1, 0, -1), entry(1, 3, 2), entry(1, 1, 0), entry(2, 0, 3), silent), 0, 1, entry(1, 0, -1)},    // its old entry is as new, and nearer
		{state(3, 2, entry(1, 0, -1), entry(1, 3, 2), entry(1, 1, 0), entry(2, 0, 3), silent), 2, 0, entry(1, 1, 0)},     // the old coordinator offers nothing
		{state(3, 2, entry(1, 0, -1), entry(1, 99, -1), silent, entry(2, 0, 3), silent), 1, 0, entry(1, 99, -1)},         // the old coordinator offers nothing
		{state(1, 5, silent, entry(5, 0, 1), entry(2, 10, -1), silent, silent), 2, 1, entry(5, 2, 1)},                    // the coordinator is not the first node
		{state(0, 5, entry(5, 0, 0), entry(4, 2, 0), entry(3, 9, 1), entry(3, 1, 1), silent), 2, 1, entry(4, 4, 1)},      // newer of the same Next
		{state(0, 5, entry(5, 0, 0), entry(4, 2, 0), entry(4, 9, 1), entry(3, 1, 1), silent), 2, 1, entry(4, 4, 1)},      // nearer of the same Next
		{state(0, 5, entry(5, 0, 0), entry(4, 2, 0), entry(3, 9, 1), entry(3, 1, 1), silent), 1, 2, entry(4, 2, 0)},      // whom it leads is older
		{state(0, 5, entry(5, 0, 0), entry(5, 4, 0), entry(5, 6, 1), entry(5, 9, 1), silent), 2, 0, entry(5, 1, 0)},      // another Next
		{state(0, 5, entry(5, 0, 0), entry(5, 4, 0), entry(5, 6, 1), entry(5, 9, 1), silent), 1, 3, entry(5, 4, 0)},      // whom it leads is farther
		{state(0, 1, entry(1, 0, 0), entry(1, 3, 2), entry(1, 1, 0), entry(1, 3200, -1), silent), 3, 1, entry(1, 8, 1)},  // much nearer
		{state(0, 2, entry(2, 0, 0), entry(1, 3, 2), entry(1, 1, 0), entry(1, 0, -1), silent), 3, 1, entry(1, 0, -1)},    // as new, and farther
		{state(0, 2, entry(2, 0, 0), entry(2, 3, 2), entry(2, 1, 0), entry(1, 0, -1), silent), 3, 1, entry(2, 8, 1)},     // newer
		{state(0, 2, entry(2, 0, 0), entry(2, 3, 2), entry(2, 1, 0), entry(2, 3200, 1), silent), 1, 3, entry(2, 3, 2)},   // too far
		{state(0, 2, entry(2, 0, 0), entry(2, 3, 2), entry(2, 1, 0), entry(2, 3200, 1), silent), 2, 1, entry(2, 1, 0)},   // whom it leads is farther
		{state(0, 2, entry(2, 0, 0), entry(2, 3, 2), entry(2, 1, 0), entry(2, 3200, 1), silent), 0, 2, entry(2, 0, 0)},   // the coordinator's never changes
		{state(4, 2, entry(1, 7, -1), entry(1, 3, -1), entry(1, 8, 0), silent, entry(2, 0, 4)), 1, 2, entry(1, 3, -1)},   // as new, and farther
		{state(4, 2, entry(1, 7, -1), entry(1, 30, -1), entry(1, 8, 0), silent, entry(2, 0, 4)), 1, 2, entry(1, 10, 2)},  // what is offered need not lead to the coordinator
		{state(4, 2, entry(1, 7, -1), entry(1, 30, -1), entry(1, 8, 0), silent, entry(2, 0, 4)), 1, 0, entry(1, 30, -1)}, // no Next: nothing is offered
	} {
		want := mesh.State{Coordinator: x.s.Coordinator, Number: x.s.Number, Entries: append([]mesh.Entry{}, x.s.Entries...)}
		want.Entries[x.to] = x.want
		s, e := mesh.Heard(shown(), x.s, x.to, x.from)
		same(t, "Heard", all(s, e), all(want, api.OK))
	}
}

func TestHeardWithErrors(t *testing.T) {
	for _, x := range []struct {
		to, from int
		e        api.Errno
	}{{-1, 0, api.ErrUnknown}, {5, 0, api.ErrUnknown}, {0, -1, api.ErrUnknown}, {0, 5, api.ErrUnknown}, {math.MinInt, math.MaxInt, api.ErrUnknown}, {0, 3, api.ErrNone}, {3, 0, api.ErrNone}, {1, 1, api.ErrNone}, {0, 0, api.ErrNone}, {4, 0, api.ErrNone}} {
		s, e := mesh.Heard(shown(), calm(), x.to, x.from)
		same(t, "Heard with errors", all(s, e), all(mesh.State{}, x.e))
	}
	eachWrongState(func(m mesh.Mesh, s mesh.State, want api.Errno) {
		for _, node := range ints(0, -1) {
			s, e := mesh.Heard(m, s, 1, node)
			same(t, "Heard with errors", all(s, e), all(mesh.State{}, want))
		}
	})
}

func TestRound(t *testing.T) {
	one := state(0, 1, entry(1, 0, 0), entry(1, 4, 0), entry(1, 1, 0), silent, silent)
	two := state(0, 1, entry(1, 0, 0), entry(1, 3, 2), entry(1, 1, 0), entry(1, 9, 1), silent)
	for _, x := range []struct {
		s    mesh.State
		lost [][2]int
		want mesh.State
	}{
		{begun(), nil, one}, {one, nil, two}, {two, nil, calm()}, {calm(), nil, calm()},
		{begun(), pairs([2]int{1, 0}, [2]int{0, 2}), state(0, 1, entry(1, 0, 0), silent, entry(1, 1, 0), silent, silent)},
		{begun(), pairs([2]int{0, 1}, [2]int{0, 2}, [2]int{0, 0}, [2]int{4, 4}, [2]int{0, 4}), one}, // pairs of no neighbours, too
		{begun(), pairs([2]int{2, 0}, [2]int{1, 0}, [2]int{2, 0}), begun()},
		{begun(), repeated([2]int{1, 0}, 256), state(0, 1, entry(1, 0, 0), silent, entry(1, 1, 0), silent, silent)},
		{one, pairs([2]int{1, 2}), state(0, 1, entry(1, 0, 0), entry(1, 4, 0), entry(1, 1, 0), entry(1, 9, 1), silent)},
		{one, pairs([2]int{3, 1}), state(0, 1, entry(1, 0, 0), entry(1, 3, 2), entry(1, 1, 0), silent, silent)},
		{two, pairs([2]int{3, 1}), two}, {two, pairs([2]int{1, 3}), calm()},
	} {
		s, e := mesh.Round(shown(), x.s, x.lost)
		same(t, "Round", all(s, e), all(x.want, api.OK))
	}
	for _, x := range pairErrors {
		s, e := mesh.Round(shown(), calm(), x.lost)
		same(t, "Round with errors", all(s, e), all(mesh.State{}, x.e))
	}
	eachWrongState(func(m mesh.Mesh, s mesh.State, want api.Errno) {
		for _, lost := range [][][2]int{nil, make([][2]int, 257)} {
			s, e := mesh.Round(m, s, lost)
			same(t, "Round with errors", all(s, e), all(mesh.State{}, want))
		}
	})
}

// TestEqualOffers has offers of which none is better: the neighbour with the lowest index decides, whatever the order of the links.
func TestEqualOffers(t *testing.T) {
	links := []mesh.Link{joins(0, 1, 2), joins(0, 2, 3), joins(0, 3, 1), joins(1, 4, 3), joins(2, 4, 2), joins(3, 4, 4)}
	r := rand.New(rand.NewSource(1))
	for range 50 {
		r.Shuffle(len(links), func(i, j int) { links[i], links[j] = links[j], links[i] })
		m := mesh.Mesh{Nodes: names(5), Links: links}
		s := state(0, 1, entry(1, 0, 0), entry(1, 2, 0), entry(1, 3, 0), entry(1, 1, 0), silent)
		for _, x := range []struct {
			lost [][2]int
			own  mesh.Entry
			want mesh.Entry
		}{
			{nil, silent, entry(1, 5, 1)}, {pairs([2]int{4, 1}), silent, entry(1, 5, 2)}, {pairs([2]int{4, 2}, [2]int{4, 1}), silent, entry(1, 5, 3)}, {pairs([2]int{4, 2}), silent, entry(1, 5, 1)},
			{nil, entry(1, 5, 3), entry(1, 5, 3)}, {nil, entry(1, 5, -1), entry(1, 5, -1)}, {nil, entry(1, 6, 2), entry(1, 5, 1)}, {nil, entry(1, 4, -1), entry(1, 4, -1)},
		} {
			s.Entries[4] = x.own
			got, e := mesh.Round(m, s, x.lost)
			same(t, "the entry after a round", all(got.Entries[4], e), all(x.want, api.OK))
		}
	}
}

// TestAllAtOnce has entries that lead on by greater numbers: a node hears what its neighbours had before the round.
func TestAllAtOnce(t *testing.T) {
	m := line(4, 10)
	s := state(0, 4, entry(4, 0, 0), entry(3, 50, 0), entry(2, 60, 1), entry(1, 70, 2))
	for _, want := range []mesh.State{
		state(0, 4, entry(4, 0, 0), entry(4, 10, 0), entry(3, 60, 1), entry(2, 70, 2)),
		state(0, 4, entry(4, 0, 0), entry(4, 10, 0), entry(4, 20, 1), entry(3, 70, 2)),
		state(0, 4, entry(4, 0, 0), entry(4, 10, 0), entry(4, 20, 1), entry(4, 30, 2)),
	} {
		var e api.Errno
		s, e = mesh.Round(m, s, nil)
		same(t, "Round", all(s, e), all(want, api.OK))
	}
}

func TestRounds(t *testing.T) {
	for _, x := range []struct {
		s, want mesh.State
		n       int
	}{
		{begun(), calm(), 3}, {calm(), calm(), 0},
		{state(0, 1, entry(1, 0, 0), entry(1, 4, 0), entry(1, 1, 0), silent, silent), calm(), 2},
		{state(3, 2, entry(1, 0, -1), entry(1, 3, 2), entry(1, 1, 0), entry(2, 0, 3), silent), state(3, 2, entry(2, 8, 2), entry(2, 5, 3), entry(2, 7, 1), entry(2, 0, 3), silent), 3},
		{state(4, 1, silent, silent, silent, silent, entry(1, 0, 4)), state(4, 1, silent, silent, silent, silent, entry(1, 0, 4)), 0},
		{state(4, 2, entry(1, 0, -1), entry(1, 4, 0), entry(1, 40, 0), silent, entry(2, 0, 4)), state(4, 2, entry(1, 0, -1), entry(1, 4, 0), entry(1, 6, 1), entry(1, 9, 1), entry(2, 0, 4)), 1}, // what is old spreads, too
	} {
		s, n, e := mesh.Rounds(shown(), x.s)
		same(t, "Rounds", all(s, n, e), all(x.want, x.n, api.OK))
	}
	m := line(32, 100)
	s, n, e := mesh.Rounds(m, value(mesh.Begun(m, 0)))
	same(t, "Rounds on a line", all(s.Entries[31], n, e), all(entry(1, 3100, 30), 31, api.OK))
	eachWrongState(func(m mesh.Mesh, s mesh.State, want api.Errno) {
		s, n, e := mesh.Rounds(m, s)
		same(t, "Rounds with errors", all(s, n, e), all(mesh.State{}, 0, want))
	})
}

// TestRoundsOneByOne compares rounds with their definition, step by step.
func TestRoundsOneByOne(t *testing.T) {
	r := rand.New(rand.NewSource(2))
	for range 1500 {
		m, s := randomState(t, r)
		lost := randomPairs(r, len(m.Nodes), 10)
		got, e := mesh.Round(m, s, lost)
		same(t, "Round", all(got, e), all(roundByHand(m, s, lost), api.OK))

		want, n := s, 0
		for next := roundByHand(m, s, nil); !alike(want, next); next = roundByHand(m, want, nil) {
			want = next
			n++
		}
		got, rounds, e := mesh.Rounds(m, s)
		same(t, "Rounds", all(got, rounds, e), all(want, n, api.OK))
	}
}
