package tone_test

import (
	"fmt"
	"math/rand"
	"testing"

	"kilovar/api"
	"kilovar/tone"
)

// same compares results with the expected ones; nil and empty lists are equal.
func same(t *testing.T, what string, got, want any) {
	t.Helper()
	if g, w := fmt.Sprintf("%+v", got), fmt.Sprintf("%+v", want); g != w {
		t.Errorf("%s: got %s, want %s", what, g, w)
	}
}

// all returns all results of a call in one.
func all(results ...any) []any { return results }

// value returns a result whose error another test examines.
func value[T any](x T, _ api.Errno) T { return x }

func to(re, im int) api.Gauss { return api.Gauss{Re: re, Im: im} }

func ints(l ...int) []int { return l }

func factors(l ...api.Gauss) []api.Gauss { return l }

func repeated[T any](x T, n int) []T {
	var out []T
	for range n {
		out = append(out, x)
	}
	return out
}

// numbered returns a name with a number.
func numbered(i int) string { return fmt.Sprint("n", i) }

// street returns the mains M of the examples with a state of the load.
func street(state string) tone.Mains {
	return tone.Mains{
		Carriers: 1,
		Cross:    factors(to(0, 1)),
		Nodes: []tone.Node{
			{Name: "t"},
			{Name: "a", Phase: 1, Factors: factors(to(1, 1))},
			{Name: "b", Up: 1, Phase: 1, Factors: factors(to(2, 0))},
			{Name: "c", Phase: 2, Factors: factors(to(1, -1))},
		},
		Loads: []tone.Load{{Node: 1, State: state, Factors: factors(to(1, 2))}},
	}
}

// chain returns mains of one phase, in which each node is above the next one.
func chain(segments int) tone.Mains {
	m := tone.Mains{Carriers: 1, Cross: factors(to(2, 2)), Nodes: []tone.Node{{Name: "n0"}}}
	for i := range segments {
		m.Nodes = append(m.Nodes, tone.Node{Name: numbered(i + 1), Up: i, Phase: 1, Factors: factors(to(2, 2))})
	}
	return m
}

// line returns the tones T of the examples.
func line() tone.Tones {
	return tone.Tones{Signal: ints(100, 10, 0), Noise: [][]int{{1, 1, 1}}, Margin: 10, Mask: 20}
}

func randomFactor(r *rand.Rand) api.Gauss {
	for {
		if x := to(r.Intn(5)-2, r.Intn(5)-2); x != to(0, 0) {
			return x
		}
	}
}

func randomFactors(r *rand.Rand, n int) []api.Gauss {
	var out []api.Gauss
	for range n {
		out = append(out, randomFactor(r))
	}
	return out
}

func randomMains(r *rand.Rand) tone.Mains {
	m := tone.Mains{Carriers: 1 + r.Intn(3), Nodes: []tone.Node{{Name: "n0"}}}
	m.Cross = randomFactors(r, m.Carriers)
	for i := 1; i < 1+r.Intn(16); i++ {
		n := tone.Node{Name: numbered(i), Up: max(0, i-1-r.Intn(3)), Phase: 1 + r.Intn(3), Factors: randomFactors(r, m.Carriers)}
		if n.Up > 0 {
			n.Phase = m.Nodes[n.Up].Phase
		}
		m.Nodes = append(m.Nodes, n)
	}
	for range r.Intn(9) {
		state := []string{"on", "off", "may"}[r.Intn(3)]
		m.Loads = append(m.Loads, tone.Load{Node: r.Intn(len(m.Nodes)), State: state, Factors: randomFactors(r, m.Carriers)})
	}
	return m
}

// randomTones returns tones with small numbers, so that many powers are equal.
func randomTones(r *rand.Rand, carriers int) tone.Tones {
	t := tone.Tones{Margin: 1 + r.Intn(10), Mask: 1 + r.Intn(60)}
	for k := range carriers {
		t.Signal = append(t.Signal, r.Intn(100)*r.Intn(5))
		if r.Intn(6) == 0 {
			t.Notches = append(t.Notches, k)
		}
	}
	for range 1 + r.Intn(3) {
		var part []int
		for range carriers {
			part = append(part, 1+r.Intn(9))
		}
		t.Noise = append(t.Noise, part)
	}
	return t
}

func randomBits(r *rand.Rand, carriers int) []int {
	var out []int
	for range carriers {
		out = append(out, r.Intn(7))
	}
	return out
}
