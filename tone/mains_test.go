package tone_test

import (
	"cmp"
	"math/rand"
	"slices"
	"strings"
	"testing"

	"kilovar/api"
	"kilovar/tone"
)

// P2.1

// mainsCase is a change of the mains of the examples (with the load on), and the error that it leads to.
type mainsCase struct {
	what   string
	change func(m *tone.Mains)
	e      api.Errno
}

func checkMainsCases(t *testing.T, cases []mainsCase) {
	t.Helper()
	for _, x := range cases {
		m := street("on")
		x.change(&m)
		same(t, "CheckMains: "+x.what, tone.CheckMains(m), x.e)
	}
}

func TestCheckMainsOfFactors(t *testing.T) {
	checkMainsCases(t, []mainsCase{
		{"nothing", func(m *tone.Mains) {}, api.OK},
		{"no carriers", func(m *tone.Mains) { m.Carriers, m.Cross = 0, nil }, api.ErrRange},
		{"carriers below 0", func(m *tone.Mains) { m.Carriers = -1 }, api.ErrRange},
		{"nine carriers", func(m *tone.Mains) { m.Carriers = 9 }, api.ErrRange},
		{"eight carriers, one factor", func(m *tone.Mains) { m.Carriers = 8 }, api.ErrShape},
		{"no cross factor", func(m *tone.Mains) { m.Cross = nil }, api.ErrShape},
		{"two cross factors", func(m *tone.Mains) { m.Cross = factors(to(1, 0), to(1, 0)) }, api.ErrShape},
		{"two cross factors with an error", func(m *tone.Mains) { m.Cross = factors(to(3, 0), to(1, 0)) }, api.ErrShape},
		{"cross 3", func(m *tone.Mains) { m.Cross[0] = to(3, 0) }, api.ErrRange},
		{"cross -3", func(m *tone.Mains) { m.Cross[0] = to(-3, 0) }, api.ErrRange},
		{"cross 3i", func(m *tone.Mains) { m.Cross[0] = to(0, 3) }, api.ErrRange},
		{"cross -3i", func(m *tone.Mains) { m.Cross[0] = to(0, -3) }, api.ErrRange},
		{"cross 2-2i", func(m *tone.Mains) { m.Cross[0] = to(2, -2) }, api.OK},
		{"cross -2+2i", func(m *tone.Mains) { m.Cross[0] = to(-2, 2) }, api.OK},
		{"cross 0", func(m *tone.Mains) { m.Cross[0] = to(0, 0) }, api.ErrZero},
		{"cross -i", func(m *tone.Mains) { m.Cross[0] = to(0, -1) }, api.OK},
		{"cross, then nodes", func(m *tone.Mains) { m.Cross[0], m.Nodes = to(0, 0), nil }, api.ErrZero},
		{"nodes, then loads", func(m *tone.Mains) { m.Nodes, m.Loads[0].State = nil, "" }, api.ErrEmpty},
	})
	m := street("on")
	m.Carriers = 2
	m.Cross = factors(to(0, 0), to(3, 0))
	same(t, "CheckMains: the first factor decides", tone.CheckMains(m), api.ErrZero)
	m.Cross = factors(to(0, 3), to(0, 0))
	same(t, "CheckMains: the first factor decides", tone.CheckMains(m), api.ErrRange)
	m.Cross = factors(to(1, 0), to(0, 0))
	same(t, "CheckMains: the second factor", tone.CheckMains(m), api.ErrZero)
}

func TestCheckMainsOfNodes(t *testing.T) {
	checkMainsCases(t, []mainsCase{
		{"no nodes", func(m *tone.Mains) { m.Nodes = nil }, api.ErrEmpty},
		{"no name", func(m *tone.Mains) { m.Nodes[2].Name = "" }, api.ErrName},
		{"a digit first", func(m *tone.Mains) { m.Nodes[0].Name = "1a" }, api.ErrName},
		{"a blank", func(m *tone.Mains) { m.Nodes[3].Name = "a b" }, api.ErrName},
		{"25 bytes", func(m *tone.Mains) { m.Nodes[3].Name = strings.Repeat("a", 25) }, api.ErrName},
		{"24 bytes", func(m *tone.Mains) { m.Nodes[3].Name = strings.Repeat("a", 24) }, api.OK},
		{"a name twice", func(m *tone.Mains) { m.Nodes[3].Name = "a" }, api.ErrTwice},
		{"the name of the transformer twice", func(m *tone.Mains) { m.Nodes[1].Name = "t" }, api.ErrTwice},
		{"another case", func(m *tone.Mains) { m.Nodes[3].Name = "A" }, api.OK},
		{"a name that is none twice", func(m *tone.Mains) { m.Nodes[1].Name, m.Nodes[0].Name = "", "" }, api.ErrName},
		{"the name, then the rule", func(m *tone.Mains) { m.Nodes[0].Name, m.Nodes[0].Up = "", 1 }, api.ErrName},
		{"twice, then unknown", func(m *tone.Mains) { m.Nodes[2].Name, m.Nodes[2].Up = "a", 2 }, api.ErrTwice},
		{"the transformer below a node", func(m *tone.Mains) { m.Nodes[0].Up = 1 }, api.ErrRule},
		{"the transformer below -1", func(m *tone.Mains) { m.Nodes[0].Up = -1 }, api.ErrRule},
		{"the transformer with a phase", func(m *tone.Mains) { m.Nodes[0].Phase = 1 }, api.ErrRule},
		{"the transformer with a factor", func(m *tone.Mains) { m.Nodes[0].Factors = factors(to(1, 0)) }, api.ErrRule},
		{"the transformer with an empty list", func(m *tone.Mains) { m.Nodes[0].Factors = factors() }, api.OK},
		{"above itself", func(m *tone.Mains) { m.Nodes[2].Up = 2 }, api.ErrUnknown},
		{"below a later node", func(m *tone.Mains) { m.Nodes[2].Up = 3 }, api.ErrUnknown},
		{"below -1", func(m *tone.Mains) { m.Nodes[2].Up = -1 }, api.ErrUnknown},
		{"unknown, then the phase", func(m *tone.Mains) { m.Nodes[2].Up, m.Nodes[2].Phase = 4, 0 }, api.ErrUnknown},
		{"no phase", func(m *tone.Mains) { m.Nodes[3].Phase = 0 }, api.ErrRange},
		{"the phase 4", func(m *tone.Mains) { m.Nodes[3].Phase = 4 }, api.ErrRange},
		{"the phase -1", func(m *tone.Mains) { m.Nodes[3].Phase = -1 }, api.ErrRange},
		{"the phase 3", func(m *tone.Mains) { m.Nodes[3].Phase = 3 }, api.OK},
		{"another phase below a node", func(m *tone.Mains) { m.Nodes[2].Phase = 2 }, api.ErrConflict},
		{"the phase 4 below a node", func(m *tone.Mains) { m.Nodes[2].Phase = 4 }, api.ErrRange},
		{"one phase below the transformer", func(m *tone.Mains) { m.Nodes[3].Phase = 1 }, api.OK},
		{"the conflict, then the factors", func(m *tone.Mains) { m.Nodes[2].Phase, m.Nodes[2].Factors = 2, nil }, api.ErrConflict},
		{"no factor", func(m *tone.Mains) { m.Nodes[1].Factors = nil }, api.ErrShape},
		{"two factors", func(m *tone.Mains) { m.Nodes[1].Factors = factors(to(1, 0), to(1, 0)) }, api.ErrShape},
		{"the factor 3i", func(m *tone.Mains) { m.Nodes[3].Factors[0] = to(1, 3) }, api.ErrRange},
		{"the factor 0", func(m *tone.Mains) { m.Nodes[3].Factors[0] = to(0, 0) }, api.ErrZero},
		{"the first node decides", func(m *tone.Mains) { m.Nodes[1].Factors[0], m.Nodes[2].Name = to(0, 0), "" }, api.ErrZero},
	})
}

func TestCheckMainsOfLoads(t *testing.T) {
	checkMainsCases(t, []mainsCase{
		{"no loads", func(m *tone.Mains) { m.Loads = nil }, api.OK},
		{"off", func(m *tone.Mains) { m.Loads[0].State = "off" }, api.OK},
		{"may", func(m *tone.Mains) { m.Loads[0].State = "may" }, api.OK},
		{"a load at the transformer", func(m *tone.Mains) { m.Loads[0].Node = 0 }, api.OK},
		{"a load at the last node", func(m *tone.Mains) { m.Loads[0].Node = 3 }, api.OK},
		{"a load at no node", func(m *tone.Mains) { m.Loads[0].Node = 4 }, api.ErrUnknown},
		{"a load at -1", func(m *tone.Mains) { m.Loads[0].Node = -1 }, api.ErrUnknown},
		{"no state", func(m *tone.Mains) { m.Loads[0].State = "" }, api.ErrKind},
		{"another state", func(m *tone.Mains) { m.Loads[0].State = "On" }, api.ErrKind},
		{"unknown, then the kind", func(m *tone.Mains) { m.Loads[0].Node, m.Loads[0].State = 4, "" }, api.ErrUnknown},
		{"the kind, then the factors", func(m *tone.Mains) { m.Loads[0].State, m.Loads[0].Factors = "", nil }, api.ErrKind},
		{"no factor", func(m *tone.Mains) { m.Loads[0].Factors = nil }, api.ErrShape},
		{"the factor -3", func(m *tone.Mains) { m.Loads[0].Factors[0] = to(-3, 0) }, api.ErrRange},
		{"the factor 0", func(m *tone.Mains) { m.Loads[0].Factors[0] = to(0, 0) }, api.ErrZero},
		{"the first load decides", func(m *tone.Mains) { m.Loads = []tone.Load{{Node: 1, State: "x"}, {Node: 9}} }, api.ErrKind},
		{"the second load", func(m *tone.Mains) { m.Loads = append(m.Loads, tone.Load{Node: 9}) }, api.ErrUnknown},
	})
}

func TestCheckMainsOfMany(t *testing.T) {
	m := chain(15)
	same(t, "16 nodes", tone.CheckMains(m), api.OK)
	m.Loads = repeated(tone.Load{Node: 15, State: "may", Factors: factors(to(1, 0))}, 16)
	same(t, "16 loads", tone.CheckMains(m), api.OK)
	m.Loads = append(m.Loads, tone.Load{})
	same(t, "17 loads", tone.CheckMains(m), api.ErrMany)
	m.Loads[0].Node = 16
	same(t, "17 loads, the first one with an error", tone.CheckMains(m), api.ErrMany)
	m = chain(16)
	same(t, "17 nodes", tone.CheckMains(m), api.ErrMany)
	m.Nodes[0].Name = ""
	same(t, "17 nodes, the first one with an error", tone.CheckMains(m), api.ErrMany)
	m = tone.Mains{Carriers: 8, Cross: repeated(to(1, 1), 8), Nodes: []tone.Node{{Name: "t"}, {Name: "a", Phase: 3, Factors: repeated(to(-2, -2), 8)}}}
	same(t, "8 carriers", tone.CheckMains(m), api.OK)
}

func TestNodesAndCarriersThatAreNone(t *testing.T) {
	m := street("on")
	for _, x := range [][2]int{{-1, 0}, {4, 0}, {0, -1}, {0, 4}} {
		p, e := tone.Path(m, x[0], x[1])
		same(t, "Path", all(p, e), all(ints(), api.ErrUnknown))
		g, e := tone.Gain(m, x[0], x[1], 0)
		same(t, "Gain", all(g, e), all(to(0, 0), api.ErrUnknown))
		i, e := tone.Enclosed(m, x[0], x[1], 0)
		same(t, "Enclosed", all(i, e), all(api.Interval{}, api.ErrUnknown))
	}
	for _, carrier := range ints(-1, 1) {
		g, e := tone.Gain(m, 0, 1, carrier)
		same(t, "Gain of no carrier", all(g, e), all(to(0, 0), api.ErrUnknown))
		i, e := tone.Enclosed(m, 0, 1, carrier)
		same(t, "Enclosed of no carrier", all(i, e), all(api.Interval{}, api.ErrUnknown))
		l, e := tone.Ranked(m, 0, carrier)
		same(t, "Ranked of no carrier", all(l, e), all(ints(), api.ErrUnknown))
	}
	for _, from := range ints(-1, 4) {
		l, e := tone.Ranked(m, from, 0)
		same(t, "Ranked from no node", all(l, e), all(ints(), api.ErrUnknown))
	}
	g, e := tone.Gain(street("may"), 0, 1, 1)
	same(t, "Gain of no carrier that is open", all(g, e), all(to(0, 0), api.ErrUnknown))
}

func TestMainsWithErrors(t *testing.T) {
	m := street("on")
	m.Loads[0].Factors[0] = to(0, 0)
	for _, at := range ints(0, 9) {
		p, e := tone.Path(m, at, at)
		same(t, "Path", all(p, e), all(ints(), api.ErrZero))
		g, e := tone.Gain(m, at, at, at)
		same(t, "Gain", all(g, e), all(to(0, 0), api.ErrZero))
		i, e := tone.Enclosed(m, at, at, at)
		same(t, "Enclosed", all(i, e), all(api.Interval{}, api.ErrZero))
		l, e := tone.Ranked(m, at, at)
		same(t, "Ranked", all(l, e), all(ints(), api.ErrZero))
		s, e := tone.Switched(m, at, "")
		same(t, "Switched", all(s, e), all(tone.Mains{}, api.ErrZero))
	}
	text, e := tone.Print(m)
	same(t, "Print", all(text, e), all("", api.ErrZero))
}

func TestPathAndGain(t *testing.T) {
	for _, x := range []struct {
		from, to int
		path     []int
		gain     api.Gauss
	}{{2, 3, ints(2, 1, 0, 3), to(-8, 4)}, {0, 1, ints(0, 1), to(-1, 3)}, {1, 0, ints(1, 0), to(-1, 3)}, {2, 1, ints(2, 1), to(2, 4)}, {1, 1, ints(1), to(1, 2)}, {0, 3, ints(0, 3), to(1, -1)}, {3, 3, ints(3), to(1, 0)}, {0, 0, ints(0), to(1, 0)}} {
		p, e := tone.Path(street("on"), x.from, x.to)
		same(t, "Path", all(p, e), all(x.path, api.OK))
		g, e := tone.Gain(street("on"), x.from, x.to, 0)
		same(t, "Gain", all(g, e), all(x.gain, api.OK))
	}
	g, e := tone.Gain(street("off"), 2, 3, 0)
	same(t, "Gain without the load", all(g, e), all(to(0, 4), api.OK))
	m := street("on")
	m.Nodes[3].Phase = 1
	g, e = tone.Gain(m, 2, 3, 0)
	same(t, "Gain of one phase", all(g, e), all(to(4, 8), api.OK))
	m = tone.Mains{Carriers: 1, Cross: factors(to(1, 0)), Nodes: []tone.Node{{Name: "n0"}, {Name: "n1", Phase: 1, Factors: factors(to(1, 0))}, {Name: "n2", Up: 1, Phase: 1, Factors: factors(to(2, 0))}, {Name: "n3", Up: 1, Phase: 1, Factors: factors(to(0, 1))}}}
	p, e := tone.Path(m, 3, 2)
	same(t, "Path beside the transformer", all(p, e), all(ints(3, 1, 2), api.OK))
	g, e = tone.Gain(m, 3, 2, 0)
	same(t, "Gain beside the transformer", all(g, e), all(to(0, 2), api.OK))
}

func TestGainThatIsOpen(t *testing.T) {
	for _, x := range []struct {
		from, to int
		gain     api.Gauss
		e        api.Errno
	}{{2, 3, to(0, 0), api.ErrOpen}, {0, 1, to(0, 0), api.ErrOpen}, {1, 1, to(0, 0), api.ErrOpen}, {0, 3, to(1, -1), api.OK}, {2, 2, to(1, 0), api.OK}} {
		g, e := tone.Gain(street("may"), x.from, x.to, 0)
		same(t, "Gain", all(g, e), all(x.gain, x.e))
	}
	m := street("may")
	m.Loads[0].Factors[0] = to(1, 0)
	g, e := tone.Gain(m, 1, 2, 0)
	same(t, "Gain with a load that changes nothing", all(g, e), all(to(0, 0), api.ErrOpen))
	m = chain(13)
	m.Loads = []tone.Load{{Node: 13, State: "may", Factors: factors(to(1, 0))}}
	g, e = tone.Gain(m, 0, 13, 0)
	same(t, "Gain that is open, and large", all(g, e), all(to(0, 0), api.ErrOpen))
}

func TestGainOfManyFactors(t *testing.T) {
	m := chain(13)
	g, e := tone.Gain(m, 0, 12, 0)
	same(t, "12 segments", all(g, e), all(to(-262144, 0), api.OK))
	g, e = tone.Gain(m, 13, 0, 0)
	same(t, "13 segments", all(g, e), all(to(0, 0), api.ErrLarge))
	i, e := tone.Enclosed(m, 0, 12, 0)
	same(t, "Enclosed of 12 segments", all(i, e), all(api.Interval{Low: 68719476736, High: 68719476736}, api.OK))
	i, e = tone.Enclosed(m, 0, 13, 0)
	same(t, "Enclosed of 13 segments", all(i, e), all(api.Interval{}, api.ErrLarge))
	for _, x := range []struct {
		state  string
		to     int
		square int
		e      api.Errno
		low    int
		large  api.Errno
	}{
		{"on", 11, 1 << 36, api.OK, 1 << 36, api.OK}, {"on", 12, 0, api.ErrLarge, 0, api.ErrLarge},
		{"off", 12, 1 << 36, api.OK, 1 << 36, api.OK}, {"off", 13, 0, api.ErrLarge, 0, api.ErrLarge},
		{"may", 11, 0, api.ErrOpen, 1 << 33, api.OK}, {"may", 12, 0, api.ErrOpen, 0, api.ErrLarge},
	} {
		m.Loads = []tone.Load{{Node: 0, State: x.state, Factors: factors(to(2, 2))}}
		g, e := tone.Gain(m, 0, x.to, 0)
		same(t, "Gain with a load "+x.state, all(g.Re*g.Re+g.Im*g.Im, e), all(x.square, x.e))
		i, e := tone.Enclosed(m, 0, x.to, 0)
		want := api.Interval{Low: x.low, High: 1 << 36}
		if x.large != api.OK {
			want = api.Interval{}
		}
		same(t, "Enclosed with a load "+x.state, all(i, e), all(want, x.large))
	}
}

func TestGainOfManyFactorsAcrossPhases(t *testing.T) {
	m := chain(6) // six segments of the phase 1, and six of the phase 2
	for i := 7; i <= 12; i++ {
		n := tone.Node{Name: numbered(i), Up: i - 1, Phase: 2, Factors: factors(to(2, 2))}
		if i == 7 {
			n.Up = 0
		}
		m.Nodes = append(m.Nodes, n)
	}
	g, e := tone.Gain(m, 6, 11, 0)
	same(t, "11 segments and the cross factor", all(g, e), all(to(-262144, 0), api.OK))
	g, e = tone.Gain(m, 6, 12, 0)
	same(t, "12 segments and the cross factor", all(g, e), all(to(0, 0), api.ErrLarge))
	i, e := tone.Enclosed(m, 12, 6, 0)
	same(t, "Enclosed of 12 segments and the cross factor", all(i, e), all(api.Interval{}, api.ErrLarge))
}

func TestEnclosed(t *testing.T) {
	for _, x := range []struct {
		state     string
		from, to  int
		low, high int
	}{{"may", 2, 3, 16, 80}, {"on", 2, 3, 80, 80}, {"off", 2, 3, 16, 16}, {"may", 0, 3, 2, 2}, {"may", 1, 1, 1, 5}, {"may", 0, 0, 1, 1}} {
		i, e := tone.Enclosed(street(x.state), x.from, x.to, 0)
		same(t, "Enclosed", all(i, e), all(api.Interval{Low: x.low, High: x.high}, api.OK))
	}
}

// pathOf computes the path from all nodes above both ends.
func pathOf(m tone.Mains, from, to int) []int {
	above := func(i int) []int {
		l := ints(i)
		for i != 0 {
			i = m.Nodes[i].Up
			l = append(l, i)
		}
		return l
	}
	up, down := above(from), above(to)
	var path []int
	for _, i := range up {
		path = append(path, i)
		if at := slices.Index(down, i); at >= 0 {
			for at--; at >= 0; at-- {
				path = append(path, down[at])
			}
			return path
		}
	}
	return nil
}

// gainsOf computes the gains for all states of the loads that may be on, and the number of factors with all of them.
func gainsOf(m tone.Mains, from, to, carrier int) ([]complex128, int) {
	gains, n := []complex128{1}, 0
	multiply := func(l []api.Gauss, perhaps bool) {
		x := complex(float64(l[carrier].Re), float64(l[carrier].Im))
		n++
		for i, g := range slices.Clone(gains) {
			gains[i] = g * x
			if perhaps {
				gains = append(gains, g)
			}
		}
	}
	path := pathOf(m, from, to)
	for k, i := range path {
		if k > 0 && m.Nodes[i].Up == path[k-1] && i != 0 {
			multiply(m.Nodes[i].Factors, false)
		} else if k > 0 {
			multiply(m.Nodes[path[k-1]].Factors, false)
		}
		for _, l := range m.Loads {
			if l.Node == i && l.State != "off" {
				multiply(l.Factors, l.State == "may")
			}
		}
	}
	if a, b := m.Nodes[from].Phase, m.Nodes[to].Phase; a*b != 0 && a != b {
		multiply(m.Cross, false)
	}
	return gains, n
}

func squareOf(z complex128) int {
	return int(real(z)*real(z) + imag(z)*imag(z))
}

// expectedGain returns what Gain returns, and what Enclosed returns.
func expectedGain(m tone.Mains, from, to, carrier int) ([]any, []any) {
	gains, n := gainsOf(m, from, to, carrier)
	var squares []int
	for _, z := range gains {
		squares = append(squares, squareOf(z))
	}
	enclosed := all(api.Interval{Low: slices.Min(squares), High: slices.Max(squares)}, api.OK)
	if n > 12 {
		enclosed = all(api.Interval{}, api.ErrLarge)
	}
	switch {
	case len(gains) > 1:
		return all(api.Gauss{}, api.ErrOpen), enclosed
	case n > 12:
		return all(api.Gauss{}, api.ErrLarge), enclosed
	}
	return all(api.Gauss{Re: int(real(gains[0])), Im: int(imag(gains[0]))}, api.OK), enclosed
}

func TestRandomMains(t *testing.T) {
	r := rand.New(rand.NewSource(1))
	for range 400 {
		m := randomMains(r)
		same(t, "CheckMains", tone.CheckMains(m), api.OK)
		for range 20 {
			from, to, carrier := r.Intn(len(m.Nodes)), r.Intn(len(m.Nodes)), r.Intn(m.Carriers)
			p, e := tone.Path(m, from, to)
			same(t, "Path", all(p, e), all(pathOf(m, from, to), api.OK))
			gain, enclosed := expectedGain(m, from, to, carrier)
			g, e := tone.Gain(m, from, to, carrier)
			same(t, "Gain", all(g, e), gain)
			i, e := tone.Enclosed(m, from, to, carrier)
			same(t, "Enclosed", all(i, e), enclosed)
		}
		from, carrier := r.Intn(len(m.Nodes)), r.Intn(m.Carriers)
		l, e := tone.Ranked(m, from, carrier)
		same(t, "Ranked", all(l, e), expectedRanks(m, from, carrier))
	}
}

// expectedRanks returns what Ranked returns.
func expectedRanks(m tone.Mains, from, carrier int) []any {
	var l []int
	squares := map[int]int{}
	for to := range m.Nodes {
		if to == from {
			continue
		}
		gain, _ := expectedGain(m, from, to, carrier)
		if gain[1] != api.OK {
			return all(ints(), gain[1])
		}
		g := gain[0].(api.Gauss)
		squares[to] = g.Re*g.Re + g.Im*g.Im
		l = append(l, to)
	}
	slices.SortFunc(l, func(a, b int) int { return cmp.Or(cmp.Compare(squares[b], squares[a]), cmp.Compare(a, b)) })
	return all(l, api.OK)
}

func TestRanked(t *testing.T) {
	for _, x := range []struct {
		state string
		from  int
		ranks []int
		e     api.Errno
	}{{"on", 0, ints(2, 1, 3), api.OK}, {"off", 0, ints(2, 1, 3), api.OK}, {"off", 1, ints(2, 3, 0), api.OK}, {"may", 0, nil, api.ErrOpen}, {"may", 1, nil, api.ErrOpen}} {
		l, e := tone.Ranked(street(x.state), x.from, 0)
		same(t, "Ranked", all(l, e), all(x.ranks, x.e))
	}
	alone := tone.Mains{Carriers: 1, Cross: factors(to(1, 0)), Nodes: []tone.Node{{Name: "t"}}, Loads: []tone.Load{{State: "may", Factors: factors(to(2, 0))}}}
	l, e := tone.Ranked(alone, 0, 0)
	same(t, "Ranked of one node", all(l, e), all(ints(), api.OK))
}

func TestRankedOfEqualSquares(t *testing.T) {
	m := tone.Mains{Carriers: 2, Cross: factors(to(1, 0), to(1, 0)), Nodes: []tone.Node{{Name: "n0"}}}
	for i, x := range factors(to(1, 0), to(2, 1), to(0, 1), to(-1, 2), to(2, 1)) {
		m.Nodes = append(m.Nodes, tone.Node{Name: numbered(i + 1), Phase: 1 + i%3, Factors: factors(x, to(1, 1))})
	}
	l, e := tone.Ranked(m, 0, 0)
	same(t, "Ranked", all(l, e), all(ints(2, 4, 5, 1, 3), api.OK))
	l, e = tone.Ranked(m, 0, 1)
	same(t, "Ranked of another carrier", all(l, e), all(ints(1, 2, 3, 4, 5), api.OK))
}

func TestRankedWithErrors(t *testing.T) {
	m := chain(13)
	m.Nodes = append(m.Nodes, tone.Node{Name: "last", Phase: 2, Factors: factors(to(1, 0))})
	m.Loads = []tone.Load{{Node: 14, State: "may", Factors: factors(to(1, 0))}}
	l, e := tone.Ranked(m, 0, 0)
	same(t, "Ranked: large, then open", all(l, e), all(ints(), api.ErrLarge))
	m.Loads[0].Node = 1
	l, e = tone.Ranked(m, 0, 0)
	same(t, "Ranked: open, then large", all(l, e), all(ints(), api.ErrOpen))
	m.Loads[0].State = "off"
	l, e = tone.Ranked(m, 1, 0)
	same(t, "Ranked from the second node", all(l, e), all(ints(13, 12, 11, 10, 9, 8, 7, 6, 5, 4, 3, 14, 0, 2), api.OK))
}

func TestSwitched(t *testing.T) {
	m := street("on")
	m.Loads = append(m.Loads, tone.Load{Node: 3, State: "may", Factors: factors(to(1, 0))})
	for _, state := range []string{"on", "off", "may"} {
		got, e := tone.Switched(m, 0, state)
		want := street(state)
		want.Loads = append(want.Loads, m.Loads[1])
		same(t, "Switched to "+state, all(got, e), all(want, api.OK))
		got, e = tone.Switched(m, 1, state)
		want = street("on")
		want.Loads = append(want.Loads, tone.Load{Node: 3, State: state, Factors: factors(to(1, 0))})
		same(t, "Switched to "+state, all(got, e), all(want, api.OK))
	}
	same(t, "the mains before", m.Loads[0].State+m.Loads[1].State, "onmay")
	for _, x := range []struct {
		load  int
		state string
		e     api.Errno
	}{{-1, "on", api.ErrUnknown}, {2, "on", api.ErrUnknown}, {2, "", api.ErrUnknown}, {0, "", api.ErrKind}, {0, "ON", api.ErrKind}} {
		got, e := tone.Switched(m, x.load, x.state)
		same(t, "Switched with errors", all(got, e), all(tone.Mains{}, x.e))
	}
}
