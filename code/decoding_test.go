package code_test

import (
	"math"
	"math/rand"
	"slices"
	"testing"

	"kilovar/api"
	"kilovar/code"
)

// P3.2

func TestDecode(t *testing.T) {
	word := ints(10, 5, 1, 0)
	for _, x := range []struct {
		l, erased, w, places []int
		e                    api.Errno
	}{
		{word, nil, word, nil, api.OK},
		{word, ints(), word, nil, api.OK},
		{ints(10, 5, 1, 7), nil, word, ints(3), api.OK},
		{ints(0, 5, 1, 0), nil, word, ints(0), api.OK},
		{ints(10, 6, 1, 0), nil, word, ints(1), api.OK},
		{ints(10, 6, 1, 7), nil, nil, nil, api.ErrCheck},
		{ints(10, 6, 1, 7), ints(1, 3), word, ints(1, 3), api.OK},
		{ints(10, 6, 1, 7), ints(3, 1), word, ints(1, 3), api.OK},
		{ints(10, 5, 0, 0), ints(3, 2), word, ints(2), api.OK},
		{word, ints(3, 2), word, nil, api.OK},
		{word, ints(0), word, nil, api.OK},
		{ints(10, 5, 1, 7), ints(3), word, ints(3), api.OK},
		{ints(10, 5, 1, 7), ints(0, 1), ints(0, 2, 1, 7), ints(0, 1), api.OK},
		{ints(10, 5, 1, 7), ints(0), nil, nil, api.ErrCheck}, // an erasure and an error take three checks
		{ints(10, 6, 1, 7), ints(1), nil, nil, api.ErrCheck},
		{word, ints(0, 1, 2), nil, nil, api.ErrCheck}, // more are erased than there are checks
		{word, ints(3, 2, 1, 0), nil, nil, api.ErrCheck},
	} {
		w, p, e := code.Decode(small(), x.l, x.erased)
		same(t, "Decode", all(x.l, x.erased, w, p, e), all(x.l, x.erased, x.w, x.places, x.e))
	}
}

func TestDecodeWithErrors(t *testing.T) {
	for _, x := range listErrors {
		w, p, e := code.Decode(x.c, x.l, ints(-1))
		same(t, "Decode of no list", all(w, p, e), all(ints(), ints(), x.e))
	}
	for _, x := range []struct {
		erased []int
		e      api.Errno
	}{
		{ints(4), api.ErrUnknown}, {ints(-1), api.ErrUnknown}, {ints(0, 4), api.ErrUnknown}, {ints(math.MinInt), api.ErrUnknown}, {ints(0, 0), api.ErrTwice}, {ints(3, 1, 2, 1), api.ErrTwice},
		{ints(-1, -1), api.ErrUnknown}, {ints(4, 0, 0), api.ErrUnknown}, {ints(0, 0, 4), api.ErrTwice}, {ints(0, 4, 4), api.ErrUnknown},
		{ints(0, 1, 2, 3, 0), api.ErrMany}, {repeated(9, 5), api.ErrMany}, {ints(0, 1, 2, 2), api.ErrTwice}, {ints(0, 1, 2, 4), api.ErrUnknown},
	} {
		w, p, e := code.Decode(small(), ints(10, 6, 1, 7), x.erased)
		same(t, "Decode with erased places that are none", all(x.erased, w, p, e), all(x.erased, ints(), ints(), x.e))
	}
	// an erased place's symbol does not matter, but it must be one
	w, p, e := code.Decode(small(), ints(10, 17, 1, 0), ints(1))
	same(t, "Decode with a symbol that is none", all(w, p, e), all(ints(), ints(), api.ErrRange))
}

// decodedOf looks for the word within the bound among all words.
func decodedOf(c code.Code, words [][]int, l, erased []int) ([]int, []int, api.Errno) {
	for _, w := range words {
		errors, places := 0, ints()
		for i := range w {
			if w[i] == l[i] {
				continue
			}
			places = append(places, i)
			if !slices.Contains(erased, i) {
				errors++
			}
		}
		if 2*errors+len(erased) <= c.Checks {
			return w, places, api.OK
		}
	}
	return nil, nil, api.ErrCheck
}

func TestRandomLists(t *testing.T) {
	r := rand.New(rand.NewSource(3))
	for _, c := range allCodes(2) {
		words := wordsOf(c)
		decoded := 0
		for range 60 {
			l := words[r.Intn(len(words))]
			l = spoilt(r, l, r.Perm(c.Length)[:r.Intn(min(c.Checks/2+3, c.Length))]...)
			erased := r.Perm(c.Length)[:r.Intn(c.Checks+1)*r.Intn(2)]
			wantWord, wantPlaces, wantError := decodedOf(c, words, l, erased)
			w, p, e := code.Decode(c, l, erased)
			same(t, "Decode", all(c, l, erased, w, p, e), all(c, l, erased, wantWord, wantPlaces, wantError))
			if e == api.OK {
				decoded++
			}
		}
		if decoded == 0 || decoded == 60 && c.Length-c.Checks == 2 {
			t.Errorf("of the code %v %d lists were decoded", c, decoded)
		}
	}
}

// decided returns decisions with symbols and trusts.
func decided(symbols []int, trusts ...float32) []code.Decision {
	var out []code.Decision
	for i, x := range symbols {
		out = append(out, code.Decision{Symbol: x, Trust: trusts[i%len(trusts)]})
	}
	return out
}

func TestNearest(t *testing.T) {
	l := ints(10, 5, 1, 7)
	for _, x := range []struct {
		c            code.Code
		decisions    []code.Decision
		word         []int
		cost, second int
	}{
		{small(), decided(l, 1, 1, 1, 0.5), ints(10, 5, 1, 0), 8, 32},
		{small(), decided(l, 1, 1, 1, 64), ints(0, 2, 1, 7), 32, 32},
		{small(), decided(l, 0), ints(0, 0, 0, 0), 0, 0},
		{small(), decided(l, 0, 0, 0, 0.0625), ints(0, 2, 1, 7), 0, 0}, // 17 words have the 7
		{small(), decided(ints(10, 5, 1, 0), 1024), ints(10, 5, 1, 0), 0, 3 * 16384},
		{small(), decided(ints(10, 5, 1, 0), 0.0625, 1, 2, 3), ints(10, 5, 1, 0), 0, 49},
		{small(), decided(ints(10, 5, 1, 0), float32(math.Copysign(0, -1))), ints(0, 0, 0, 0), 0, 0},
		{of(2, 1), decided(ints(2, 0), 1, 2), ints(0, 0), 16, 32},
		{of(2, 1), decided(ints(2, 0), 1, 1), ints(0, 0), 16, 16},
		{of(2, 1), decided(ints(2, 0), 2, 1), ints(2, 5), 16, 32},
		{of(2, 1), decided(ints(2, 5), 0, 3), ints(2, 5), 0, 48},
	} {
		w, cost, e := code.Nearest(x.c, x.decisions)
		same(t, "Nearest", all(x.decisions, w, cost, e), all(x.decisions, x.word, x.cost, api.OK))
		n, e := code.Second(x.c, x.decisions)
		same(t, "Second", all(x.decisions, n, e), all(x.decisions, x.second, api.OK))
	}
}

// costOf is the cost of a word by its definition.
func costOf(l []code.Decision, w []int) int {
	sum := 0
	for i, d := range l {
		if d.Symbol != w[i] {
			sum += int(d.Trust * 16)
		}
	}
	return sum
}

// randomDecisions returns decisions with small trusts, so that many costs are equal.
func randomDecisions(r *rand.Rand, l []int) []code.Decision {
	var out []code.Decision
	for _, x := range l {
		out = append(out, code.Decision{Symbol: x, Trust: float32(r.Intn(5)) / 16})
	}
	return out
}

func TestRandomDecisions(t *testing.T) {
	r := rand.New(rand.NewSource(4))
	for _, c := range allCodes(2) {
		words := wordsOf(c)
		for range 12 {
			l := randomDecisions(r, spoilt(r, words[r.Intn(len(words))], r.Perm(c.Length)[:r.Intn(c.Length)]...))
			var costs []int
			for _, w := range words {
				costs = append(costs, costOf(l, w))
			}
			least := slices.Min(costs) // the words are in order
			w, cost, e := code.Nearest(c, l)
			same(t, "Nearest", all(c, l, w, cost, e), all(c, l, words[slices.Index(costs, least)], least, api.OK))
			n, e := code.Second(c, l)
			same(t, "Second", all(c, l, n, e), all(c, l, sorted(costs)[1], api.OK))
		}
	}
}

// decisionErrors are decisions for a code that are none, and their errors.
var decisionErrors = []struct {
	c code.Code
	l []code.Decision
	e api.Errno
}{
	{of(17, 15), decided(make([]int, 17), 1), api.ErrRange}, {of(4, 0), nil, api.ErrRange}, {of(4, 4), decided(ints(17), 1), api.ErrOrder}, {of(16, 1), nil, api.ErrShape},
	{small(), nil, api.ErrShape}, {small(), decided(ints(1, 2, 3), 1), api.ErrShape}, {small(), decided(ints(1, 2, 3, 4, 5), 1), api.ErrShape}, {small(), decided(ints(17, 17, 17), -1), api.ErrShape},
	{small(), decided(ints(17, 0, 0, 0), 1), api.ErrRange}, {small(), decided(ints(0, 0, 0, -1), 1), api.ErrRange},
	{small(), decided(ints(0, 0, 0, 0), 1, 1, 1, float32(math.NaN())), api.ErrForm}, {small(), decided(ints(0, 0, 0, 0), float32(math.Inf(1))), api.ErrForm}, {small(), decided(ints(0, 0, 0, 0), float32(math.Inf(-1))), api.ErrForm},
	{small(), decided(ints(0, 0, 0, 0), 0.03125), api.ErrRange}, {small(), decided(ints(0, 0, 0, 0), 1, 1024.0625), api.ErrRange}, {small(), decided(ints(0, 0, 0, 0), 1, 1, 1, -0.0625), api.ErrRange}, {small(), decided(ints(0, 0, 0, 0), -1024), api.ErrRange},
	{small(), decided(ints(17, 0, 0, 0), float32(math.NaN())), api.ErrRange}, {small(), decided(ints(0, 17, 0, 0), float32(math.NaN()), 1, 1, 1), api.ErrForm}, {small(), decided(ints(0, 17, 0, 0), 1, 1, float32(math.NaN()), 1), api.ErrRange},
	{small(), decided(ints(0, 0, 0, 0), -1, float32(math.NaN()), 1, 1), api.ErrRange}, {small(), decided(ints(0, 0, 0, 0), float32(math.NaN()), -1, 1, 1), api.ErrForm},
}

func TestDecisionsWithErrors(t *testing.T) {
	for _, x := range decisionErrors {
		w, cost, e := code.Nearest(x.c, x.l)
		same(t, "Nearest with errors", all(w, cost, e), all(ints(), 0, x.e))
		n, e := code.Second(x.c, x.l)
		same(t, "Second with errors", all(n, e), all(0, x.e))
		n, e = code.Cost(x.c, x.l, ints(17))
		same(t, "Cost with errors of the decisions", all(n, e), all(0, x.e))
	}
	for _, c := range allCodes(15) {
		want := api.OK
		if c.Length-c.Checks > 2 {
			want = api.ErrLimit
		}
		_, _, e := code.Nearest(c, decided(make([]int, c.Length), 1))
		same(t, "Nearest of long messages", e, want)
		n, e := code.Second(c, decided(make([]int, c.Length), 1))
		same(t, "Second of long messages", all(n > 0, e), all(want == api.OK, want))
		_, _, e = code.Nearest(c, decided(make([]int, c.Length), -1))
		same(t, "Nearest of long messages with errors", e, api.ErrRange)
		_, e = code.Second(c, decided(make([]int, c.Length+1), 1))
		same(t, "Second of long messages with errors", e, api.ErrShape)
	}
}

func TestCost(t *testing.T) {
	l := decided(ints(10, 5, 1, 7), 1, 1, 1, 0.5)
	for _, x := range []struct {
		word []int
		n    int
		e    api.Errno
	}{
		{ints(1, 2, 0, 1), 56, api.OK}, {ints(10, 5, 1, 0), 8, api.OK}, {ints(0, 2, 1, 7), 32, api.OK}, {ints(0, 0, 0, 0), 56, api.OK},
		{ints(1, 2, 0, 2), 0, api.ErrCheck}, {ints(10, 5, 1, 7), 0, api.ErrCheck},
		{nil, 0, api.ErrShape}, {ints(1, 2, 0), 0, api.ErrShape}, {ints(1, 2, 0, 1, 0), 0, api.ErrShape}, {ints(17, 2, 0), 0, api.ErrShape}, {ints(1, 2, 17, 1), 0, api.ErrRange}, {ints(-16, 2, 0, 1), 0, api.ErrRange},
	} {
		n, e := code.Cost(small(), l, x.word)
		same(t, "Cost", all(x.word, n, e), all(x.word, x.n, x.e))
	}
	n, e := code.Cost(of(16, 1), decided(repeated(1, 16), 1024), make([]int, 16)) // the message may be long
	same(t, "the greatest cost", all(n, e), all(16*16384, api.OK))
}

func TestRandomCosts(t *testing.T) {
	r := rand.New(rand.NewSource(5))
	for _, c := range allCodes(15) {
		w := randomWord(r, c)
		l := randomDecisions(r, spoilt(r, w, r.Perm(c.Length)[:r.Intn(c.Length)]...))
		n, e := code.Cost(c, l, w)
		same(t, "Cost", all(n, e), all(costOf(l, w), api.OK))
	}
}
