package link_test

import (
	"math"
	"math/rand"
	"slices"
	"testing"

	"kilovar/api"
	"kilovar/link"
)

// P4.3

func TestCheckStations(t *testing.T) {
	for _, l := range [][]link.Station{nil, xyz(), stations(station("abcdefghijklmnopqrstuvwx", 3, 64, 1000), station("A", 0, 0, 0), station("a", 0, 0, 0)), randomStations(rand.New(rand.NewSource(1)), 8)} {
		same(t, "CheckStations", link.CheckStations(l), api.OK)
	}
	for _, x := range stationErrors {
		same(t, "CheckStations with errors", all(x.l, link.CheckStations(x.l)), all(x.l, x.e))
		n, e := link.Winner(x.l)
		same(t, "Winner of no stations", all(n, e), all(0, x.e))
		w, l, e := link.Served(x.l, -1)
		same(t, "Served of no stations", all(w, l, e), all(ints(), stations(), x.e))
		w, e = link.Access(x.l, nil, -1)
		same(t, "Access of no stations", all(w, e), all(ints(), x.e))
	}
}

func TestWinner(t *testing.T) {
	for _, x := range []struct {
		l []link.Station
		n int
		e api.Errno
	}{
		{xyz(), 0, api.OK},
		{stations(station("a", 3, 0, 1000), station("b", 0, 1, 0)), 1, api.OK}, // one without frames does not win
		{stations(station("a", 1, 1, 1), station("b", 0, 1, 2)), 0, api.OK},    // of several the first one
		{stations(station("a", 1, 1, 1), station("b", 0, 1, 3)), 1, api.OK}, {stations(station("a", 0, 1, 0), station("b", 1, 1, 0)), 1, api.OK}, {stations(station("a", 3, 1, 0), station("b", 0, 1, 4), station("c", 1, 1, 3), station("d", 0, 64, 4)), 1, api.OK},
		{stations(station("b", 0, 1, 0), station("a", 0, 64, 0)), 0, api.OK}, {stations(station("a", 0, 1, 1000), station("b", 1, 1, 1000)), 1, api.OK}, {stations(station("a", 3, 1, 998), station("b", 0, 1, 1000)), 0, api.OK},
		{stations(station("a", 0, 0, 0), station("b", 0, 0, 0), station("c", 0, 1, 0)), 2, api.OK},
		{nil, 0, api.ErrNone}, {stations(station("a", 3, 0, 1000)), 0, api.ErrNone}, {stations(station("a", 3, 0, 0), station("b", 3, 0, 0)), 0, api.ErrNone},
	} {
		n, e := link.Winner(x.l)
		same(t, "Winner", all(x.l, n, e), all(x.l, x.n, x.e))
	}
}

func TestServed(t *testing.T) {
	for _, x := range []struct {
		l    []link.Station
		n    int
		w    []int
		left []link.Station
	}{
		{xyz(), 0, nil, xyz()},
		{xyz(), 1, ints(0), stations(station("x", 3, 1, 0), station("y", 0, 1, 1), station("z", 1, 1, 1))},
		{xyz(), 2, ints(0, 0), stations(station("x", 3, 0, 0), station("y", 0, 1, 2), station("z", 1, 1, 2))},
		{xyz(), 3, ints(0, 0, 2), stations(station("x", 3, 0, 0), station("y", 0, 1, 3), station("z", 1, 0, 0))},
		{xyz(), 4, ints(0, 0, 2, 1), stations(station("x", 3, 0, 0), station("y", 0, 0, 0), station("z", 1, 0, 0))},
		{xyz(), 256, ints(0, 0, 2, 1), stations(station("x", 3, 0, 0), station("y", 0, 0, 0), station("z", 1, 0, 0))},
		{nil, 256, nil, nil},
		{stations(station("a", 1, 0, 7)), 5, nil, stations(station("a", 1, 0, 7))}, // without a winner nothing changes
		{stations(station("a", 1, 0, 7), station("b", 1, 1, 0)), 0, nil, stations(station("a", 1, 0, 7), station("b", 1, 1, 0))},
		{stations(station("a", 1, 0, 7), station("b", 1, 1, 0)), 1, ints(1), stations(station("a", 1, 0, 0), station("b", 1, 0, 0))}, // without frames they have waited 0 slots
		{stations(station("a", 1, 1, 1000), station("b", 1, 1, 1000), station("c", 0, 1, 999)), 1, ints(0), stations(station("a", 1, 0, 0), station("b", 1, 1, 1000), station("c", 0, 1, 1000))},
		{stations(station("a", 1, 2, 0), station("b", 1, 2, 0)), 3, ints(0, 1, 0), stations(station("a", 1, 0, 0), station("b", 1, 1, 1))},
		{stations(station("a", 0, 64, 5)), 256, make([]int, 64), stations(station("a", 0, 0, 0))},
	} {
		w, l, e := link.Served(x.l, x.n)
		same(t, "Served", all(x.n, w, l, e), all(x.n, x.w, x.left, api.OK))
	}
	for _, n := range ints(-1, 257, math.MinInt, math.MaxInt) {
		w, l, e := link.Served(xyz(), n)
		same(t, "Served in no slots", all(w, l, e), all(ints(), stations(), api.ErrRange))
	}
}

// next computes the winner of a slot, or -1, and the stations after it, station by station.
func next(l []link.Station) (int, []link.Station) {
	best, rank := -1, -1
	for i, s := range l {
		if s.Frames > 0 && s.Priority+s.Waited > rank {
			best, rank = i, s.Priority+s.Waited
		}
	}
	out := slices.Clone(l)
	for i := range out {
		switch {
		case best < 0:
		case i == best:
			out[i].Frames--
			out[i].Waited = 0
		case out[i].Frames == 0:
			out[i].Waited = 0
		case out[i].Waited < 1000:
			out[i].Waited++
		}
	}
	return best, out
}

func TestServedInManySlots(t *testing.T) {
	r := rand.New(rand.NewSource(3))
	for range 1000 {
		l := randomStations(r, r.Intn(9))
		n := r.Intn(40)
		var want []int
		left := l
		for range n {
			best, after := next(left)
			if best >= 0 {
				want, left = append(want, best), after
			}
		}
		w, got, e := link.Served(l, n)
		same(t, "Served", all(l, n, w, got, e), all(l, n, want, left, api.OK))
		if len(want) == 0 {
			continue
		}
		first, e := link.Winner(l)
		same(t, "Winner", all(first, e), all(want[0], api.OK))
	}
}

func TestBound(t *testing.T) {
	for n, want := range map[int]int{1: 4, 2: 5, 3: 6, 7: 10, 8: 11} {
		b, e := link.Bound(n)
		same(t, "Bound", all(b, e), all(want, api.OK))
	}
	for _, n := range ints(0, 9, -1, math.MinInt, math.MaxInt) {
		b, e := link.Bound(n)
		same(t, "Bound of no number", all(b, e), all(0, api.ErrRange))
	}
}

func TestOpen(t *testing.T) {
	for _, x := range []struct {
		cycle   []bool
		from, n int
		want    []int
	}{
		{[]bool{true, false, true}, 1, 4, ints(2, 3, 5, 6)}, {[]bool{true, false, true}, 0, 4, ints(0, 2, 3, 5)}, {[]bool{true, false, true}, 2, 1, ints(2)}, {[]bool{true, false, true}, 3, 2, ints(3, 5)},
		{[]bool{true}, 0, 0, nil}, {[]bool{true}, 7, 2, ints(7, 8)}, {[]bool{false, true}, 0, 2, ints(1, 3)}, {[]bool{false, true}, 999999999, 2, ints(999999999, 1000000001)}, {[]bool{true, false}, 999999999, 1, ints(1000000000)},
		{append(make([]bool, 15), true), 0, 2, ints(15, 31)}, {append(make([]bool, 15), true), 16, 1, ints(31)},
	} {
		l, e := link.Open(x.cycle, x.from, x.n)
		same(t, "Open", all(x.cycle, l, e), all(x.cycle, x.want, api.OK))
	}
	l, e := link.Open(append(make([]bool, 15), true), 999999999, 256)
	same(t, "Open of many slots", all(len(l), l[0], l[255], e), all(256, 999999999, 999999999+255*16, api.OK))
}

func TestOpenWithErrors(t *testing.T) {
	for _, x := range cycleErrors {
		l, e := link.Open(x.cycle, -1, -1)
		same(t, "Open of no cycle", all(l, e), all(ints(), x.e))
		l, e = link.Access(xyz(), x.cycle, -1)
		same(t, "Access in no cycle", all(l, e), all(ints(), x.e))
	}
	for _, x := range []struct {
		cycle   []bool
		from, n int
		e       api.Errno
	}{
		{[]bool{true}, -1, 1, api.ErrRange}, {[]bool{true}, 1000000000, 1, api.ErrRange}, {[]bool{true}, math.MinInt, 0, api.ErrRange}, {[]bool{true}, math.MaxInt, 0, api.ErrRange},
		{[]bool{true}, 0, -1, api.ErrRange}, {[]bool{true}, 0, 257, api.ErrRange}, {[]bool{true}, 0, math.MinInt, api.ErrRange}, {[]bool{true}, 0, math.MaxInt, api.ErrRange},
		{[]bool{false}, -1, 1, api.ErrRange}, {[]bool{false}, 0, 257, api.ErrRange},
		{[]bool{false}, 0, 1, api.ErrNone}, {[]bool{false}, 0, 0, api.ErrNone}, {make([]bool, 16), 5, 256, api.ErrNone},
	} {
		l, e := link.Open(x.cycle, x.from, x.n)
		same(t, "Open with errors", all(l, e), all(ints(), x.e))
	}
}

func TestAccess(t *testing.T) {
	for _, x := range []struct {
		l     []link.Station
		cycle []bool
		n     int
		want  []int
	}{
		{xyz(), []bool{true}, 6, ints(0, 0, 2, 1, -1, -1)}, {xyz(), []bool{true, false}, 4, ints(0, -1, 0, -1)}, {xyz(), []bool{false, true, false}, 8, ints(-1, 0, -1, -1, 0, -1, -1, 2)}, // nobody waits in a slot that is not open
		{xyz(), []bool{true}, 0, nil}, {xyz(), []bool{false, true}, 1, ints(-1)}, {nil, []bool{true}, 2, ints(-1, -1)}, {stations(station("a", 3, 0, 9)), []bool{true}, 1, ints(-1)},
		{stations(station("a", 0, 2, 0)), append(make([]bool, 15), true), 33, append(append(append(repeated(-1, 15), 0), repeated(-1, 15)...), 0, -1)},
	} {
		l, e := link.Access(x.l, x.cycle, x.n)
		same(t, "Access", all(l, e), all(x.want, api.OK))
	}
	l, e := link.Access(stations(station("a", 0, 64, 0), station("b", 0, 64, 0)), []bool{true}, 256)
	same(t, "Access of many slots", all(len(l), l[126:130], l[255], e), all(256, ints(0, 1, -1, -1), -1, api.OK))
	for _, x := range []struct {
		cycle []bool
		n     int
		e     api.Errno
	}{
		{[]bool{true}, -1, api.ErrRange}, {[]bool{true}, 257, api.ErrRange}, {[]bool{true}, math.MinInt, api.ErrRange}, {[]bool{true}, math.MaxInt, api.ErrRange}, {[]bool{false}, 257, api.ErrRange},
		{[]bool{false}, 1, api.ErrNone}, {[]bool{false}, 0, api.ErrNone}, {make([]bool, 16), 256, api.ErrNone},
	} {
		l, e := link.Access(xyz(), x.cycle, x.n)
		same(t, "Access with errors", all(l, e), all(ints(), x.e))
	}
}

// TestAccessIsServed compares the winners of the open slots of cycles with those of as many successive ones.
func TestAccessIsServed(t *testing.T) {
	r := rand.New(rand.NewSource(4))
	for range 500 {
		l := randomStations(r, r.Intn(9))
		cycle := []bool{true}
		for range r.Intn(16) {
			cycle = append(cycle, r.Intn(2) == 0)
		}
		cycle = shuffled(r, cycle)
		slots := r.Intn(60)
		open := slices.DeleteFunc(value(link.Open(cycle, 0, 60)), func(at int) bool { return at >= slots })
		want := repeated(-1, slots)
		w, _, e := link.Served(l, len(open))
		same(t, "Served: error", e, api.OK)
		for i, first := range w {
			want[open[i]] = first
		}
		got, e := link.Access(l, cycle, slots)
		same(t, "Access", all(got, e), all(want, api.OK))
	}
}
