package access_test

import (
	"math"
	"math/rand"
	"testing"

	"kilovar/access"
	"kilovar/api"
)

// P9.2

// to returns an interval.
func to(low, high int) api.Interval { return api.Interval{Low: low, High: high} }

func answer(sum int, set ...int) access.Answer {
	return access.Answer{Set: set, Sum: sum}
}

func sets(l ...[]int) [][]int { return l }

// setErrors are sets of three houses that are none, and their errors.
func setErrors() map[api.Errno][][]int {
	return map[api.Errno][][]int{
		api.ErrEmpty:   {nil, {}},
		api.ErrUnknown: {{3}, {-1}, {0, 3}, {3, 0}, {0, 1, 2, 3}, {-1, -1}, {2, -1}, {2, 3, 0}, {math.MaxInt}, {math.MinInt, math.MinInt}, repeated(3, 100000)},
		api.ErrOrder:   {{0, 0}, {1, 0}, {0, 2, 1}, {0, 2, 2}, {2, 1, 3}, {0, 1, 2, 0}, {0, 1, 2, 2}, repeated(0, 100000)},
	}
}

func TestPermitted(t *testing.T) {
	for _, x := range []struct {
		houses, k int
		asked     [][]int
		set       []int
		is        bool
	}{
		{3, 2, nil, ints(0, 1), true}, {3, 2, sets(ints(0, 1)), ints(0, 1, 2), false}, {3, 2, sets(ints(0, 1)), ints(2), false}, {3, 2, sets(ints(0, 1)), ints(1, 2), true}, // as in the examples
		{3, 2, sets(ints(0, 1)), ints(0, 1), true}, {3, 2, sets(ints(0, 1), ints(0, 1)), ints(0, 1), true}, {3, 2, sets(ints(0, 1), ints(0, 1, 2)), ints(0, 1), false}, {3, 2, sets(ints(0, 1, 2), ints(1, 2)), ints(0, 1), false}, {3, 2, sets(ints(1, 2), ints(0, 2)), ints(0, 1), true},
		{3, 2, sets(ints(2)), ints(0, 1), true}, {3, 2, sets(ints(0)), ints(0, 1), false}, {3, 2, sets(ints(0)), ints(0), false}, {3, 3, sets(ints(0)), ints(0, 1, 2), false}, {3, 3, nil, ints(0, 1, 2), true}, {3, 3, nil, ints(0, 1), false}, {3, 4, nil, ints(0, 1, 2), false}, {1, 5, nil, ints(0), false}, {5, 5, nil, ints(0, 1, 2, 3, 4), true},
		{1, 1, nil, ints(0), true}, {1, 1, sets(ints(0)), ints(0), true}, {3, 1, sets(ints(0, 1)), ints(0), true}, {3, 1, sets(ints(0, 1), ints(1), ints(2), ints(0, 1, 2)), ints(0, 2), true},
		{5, 3, sets(ints(0, 1, 2)), ints(0, 1, 3), false}, {5, 3, sets(ints(0, 1, 2)), ints(0, 3, 4), true}, {5, 3, sets(ints(0, 1, 2), ints(1, 3, 4)), ints(0, 3, 4), false}, {5, 3, sets(ints(1, 3, 4), ints(0, 1, 2)), ints(0, 3, 4), false}, {5, 2, sets(ints(0, 1, 2, 3)), ints(0, 1), true}, {5, 3, sets(ints(0, 1, 2, 3, 4)), ints(0, 1, 2), false},
		{5, 2, repeated(ints(3, 4), 16), ints(0, 1), true}, {5, 2, append(repeated(ints(3, 4), 15), ints(0, 1, 2)), ints(0, 1), false},
	} {
		is, e := access.Permitted(x.houses, x.k, x.asked, x.set)
		same(t, "Permitted", all(x, is, e), all(x, x.is, api.OK))
	}
}

func TestPermittedOfWrongArguments(t *testing.T) {
	check := func(houses, k int, asked [][]int, set []int, want api.Errno) {
		t.Helper()
		is, e := access.Permitted(houses, k, asked, set)
		same(t, "Permitted", all(houses, k, is, e), all(houses, k, false, want))
	}
	for _, n := range outside(1, 5) {
		check(n, 0, make([][]int, 17), nil, api.ErrRange)
		check(3, n, make([][]int, 17), nil, api.ErrRange)
		check(n, 1, nil, ints(0), api.ErrRange)
		check(3, n, nil, ints(0), api.ErrRange)
	}
	check(3, 1, make([][]int, 17), nil, api.ErrMany)
	check(3, 1, repeated(ints(0), 17), ints(1), api.ErrMany)
	check(3, 1, repeated(ints(0), 100000), ints(1), api.ErrMany)
	check(3, 5, append(repeated(ints(0), 15), nil), ints(0, 0), api.ErrEmpty)
	for e, l := range setErrors() {
		for _, set := range l {
			check(3, 2, sets(set), nil, e)
			check(3, 5, sets(ints(0, 1), set, ints(1, 1), nil), ints(7), e)
			check(3, 2, nil, set, e)
			check(3, 2, sets(ints(0, 1)), set, e)
		}
	}
	check(2, 2, nil, ints(0, 1, 2), api.ErrUnknown)
	check(1, 1, sets(ints(1)), ints(0), api.ErrUnknown)
}

// TestPermittedByHand compares sets as bits of numbers.
func TestPermittedByHand(t *testing.T) {
	bits := func(set []int) int {
		n := 0
		for _, house := range set {
			n |= 1 << house
		}
		return n
	}
	count := func(n int) int {
		out := 0
		for ; n > 0; n /= 2 {
			out += n % 2
		}
		return out
	}
	r := rand.New(rand.NewSource(3))
	for range 3000 {
		houses, k := 1+r.Intn(5), 1+r.Intn(5)
		asked, set := randomSets(r, houses, r.Intn(4)), randomSet(r, houses)
		want := count(bits(set)) >= k
		for _, other := range asked {
			n := count(bits(other) ^ bits(set))
			want = want && (n == 0 || n >= k)
		}
		is, e := access.Permitted(houses, k, asked, set)
		same(t, "Permitted", all(houses, k, asked, set, is, e), all(houses, k, asked, set, want, api.OK))
	}
}

func TestSum(t *testing.T) {
	for _, x := range []struct {
		uses, set []int
		n         int
	}{
		{ints(3, 4, 5), ints(0, 2), 8}, {ints(3, 4, 5), ints(1), 4}, {ints(3, 4, 5), ints(0, 1, 2), 12}, {ints(7), ints(0), 7}, {ints(0), ints(0), 0}, {repeated(7, 5), ints(0, 1, 2, 3, 4), 35}, {ints(1, 2, 3, 4, 5), ints(4), 5}, {ints(1, 2, 3, 4, 5), ints(0, 3), 5},
	} {
		n, e := access.Sum(x.uses, x.set)
		same(t, "Sum", all(n, e), all(x.n, api.OK))
	}
	check := func(uses, set []int, want api.Errno) {
		t.Helper()
		n, e := access.Sum(uses, set)
		same(t, "Sum of wrong arguments", all(uses, set, n, e), all(uses, set, 0, want))
	}
	check(nil, nil, api.ErrEmpty)
	check(ints(), ints(0), api.ErrEmpty)
	check(make([]int, 6), nil, api.ErrMany)
	check(repeated(-1, 6), ints(0), api.ErrMany)
	check(ints(1), ints(1), api.ErrUnknown)
	for _, n := range outside(0, 7) {
		check(ints(n), nil, api.ErrRange)
		check(ints(0, 7, n), ints(0), api.ErrRange)
	}
	for e, l := range setErrors() {
		for _, set := range l {
			check(ints(1, 2, 3), set, e)
		}
	}
}

func TestKnownAndHidden(t *testing.T) {
	for _, x := range []struct {
		houses, most int
		l            []access.Answer
		k            []api.Interval // nil: no uses lead to the answers
	}{
		{2, 7, []access.Answer{answer(12, 0, 1)}, []api.Interval{to(5, 7), to(5, 7)}}, {2, 7, []access.Answer{answer(12, 0, 1), answer(6, 0)}, []api.Interval{to(6, 6), to(6, 6)}}, // as in the examples
		{3, 2, []access.Answer{answer(3, 0, 1), answer(1, 1, 2)}, []api.Interval{to(2, 2), to(1, 1), to(0, 0)}}, {2, 3, nil, []api.Interval{to(0, 3), to(0, 3)}}, {1, 1, nil, []api.Interval{to(0, 1)}}, {5, 7, nil, repeated(to(0, 7), 5)}, {1, 7, []access.Answer{answer(0, 0)}, []api.Interval{to(0, 0)}}, {1, 7, []access.Answer{answer(7, 0)}, []api.Interval{to(7, 7)}},
		{5, 7, []access.Answer{answer(35, 0, 1, 2, 3, 4)}, repeated(to(7, 7), 5)}, {5, 7, []access.Answer{answer(0, 0, 1, 2, 3, 4)}, repeated(to(0, 0), 5)}, {5, 7, []access.Answer{answer(34, 0, 1, 2, 3, 4)}, repeated(to(6, 7), 5)}, {5, 7, []access.Answer{answer(20, 0, 1, 2, 3, 4)}, repeated(to(0, 7), 5)},
		{3, 7, []access.Answer{answer(3, 0, 1)}, []api.Interval{to(0, 3), to(0, 3), to(0, 7)}}, {3, 7, []access.Answer{answer(5, 0, 1), answer(6, 1, 2), answer(3, 0, 2)}, []api.Interval{to(1, 1), to(4, 4), to(2, 2)}}, {3, 7, repeated(answer(13, 1, 2), 16), []api.Interval{to(0, 7), to(6, 7), to(6, 7)}},
		{2, 3, []access.Answer{answer(7, 0, 1)}, nil}, {2, 7, []access.Answer{answer(35, 0)}, nil}, {2, 7, []access.Answer{answer(3, 0), answer(4, 0)}, nil}, {3, 7, []access.Answer{answer(1, 0, 1), answer(1, 1, 2), answer(1, 0, 2)}, nil}, {1, 1, []access.Answer{answer(2, 0)}, nil},
	} {
		e := api.OK
		if x.k == nil {
			e = api.ErrInfeasible
		}
		got, f := access.Known(x.houses, x.most, x.l)
		same(t, "Known", all(x.l, got, f), all(x.l, x.k, e))
		for width := range 8 {
			wide := e == api.OK
			for _, k := range x.k {
				wide = wide && k.High-k.Low >= width
			}
			is, f := access.Hidden(x.houses, x.most, x.l, width)
			same(t, "Hidden", all(x.l, width, is, f), all(x.l, width, wide, e))
		}
	}
	is, e := access.Hidden(3, 7, []access.Answer{answer(3, 0, 1)}, 3)
	same(t, "Hidden", all(is, e), all(true, api.OK))
	is, e = access.Hidden(3, 7, []access.Answer{answer(3, 0, 1)}, 4)
	same(t, "Hidden of houses of which one is hidden", all(is, e), all(false, api.OK))
}

func TestKnownOfWrongArguments(t *testing.T) {
	check := func(houses, most int, l []access.Answer, want api.Errno) {
		t.Helper()
		k, e := access.Known(houses, most, l)
		same(t, "Known", all(houses, most, k, e), all(houses, most, ints(), want))
		for _, width := range ints(0, -1) {
			is, e := access.Hidden(houses, most, l, width)
			same(t, "Hidden", all(houses, most, is, e), all(houses, most, false, want))
		}
	}
	for _, n := range outside(1, 5) {
		check(n, 0, make([]access.Answer, 17), api.ErrRange)
		check(n, 7, nil, api.ErrRange)
	}
	for _, n := range outside(1, 7) {
		check(3, n, make([]access.Answer, 17), api.ErrRange)
		check(3, n, nil, api.ErrRange)
	}
	check(3, 7, make([]access.Answer, 17), api.ErrMany)
	check(3, 7, repeated(answer(3, 0), 17), api.ErrMany)
	check(3, 7, repeated(answer(36, 0), 100000), api.ErrMany)
	for e, l := range setErrors() {
		for _, set := range l {
			check(3, 7, []access.Answer{answer(36, set...), answer(3)}, e)
			check(3, 7, []access.Answer{answer(30, 0), answer(3, set...)}, e)
			check(3, 7, []access.Answer{answer(36, 0), answer(3, set...)}, api.ErrRange)
		}
	}
	for _, n := range outside(0, 35) {
		check(3, 7, []access.Answer{answer(n, 0)}, api.ErrRange)
		check(3, 7, []access.Answer{answer(30, 0), answer(n, 0, 1), answer(3)}, api.ErrRange)
	}
	for _, width := range outside(0, 7) {
		is, e := access.Hidden(2, 7, []access.Answer{answer(30, 0)}, width)
		same(t, "Hidden of a wrong width", all(width, is, e), all(width, false, api.ErrRange))
	}
}

// knownByHand returns the intervals of houses, whose uses are found one after the other, and whether there are any uses.
func knownByHand(houses, most int, l []access.Answer) ([]api.Interval, bool) {
	out := repeated(to(8, -1), houses)
	var try func(uses []int)
	try = func(uses []int) {
		if len(uses) < houses {
			for use := range most + 1 {
				try(append(uses, use))
			}
			return
		}
		for _, a := range l {
			sum := 0
			for _, house := range a.Set {
				sum += uses[house]
			}
			if sum != a.Sum {
				return
			}
		}
		for i, use := range uses {
			out[i] = to(min(out[i].Low, use), max(out[i].High, use))
		}
	}
	try(nil)
	return out, out[0].High >= 0
}

// randomAnswers returns answers of which most are those of the same uses, and the uses.
func randomAnswers(r *rand.Rand, houses, most, n int) ([]access.Answer, []int) {
	var uses []int
	for range houses {
		uses = append(uses, r.Intn(most+1))
	}
	var out []access.Answer
	for _, set := range randomSets(r, houses, n) {
		sum := 0
		for _, house := range set {
			sum += uses[house]
		}
		out = append(out, answer(sum, set...))
	}
	return out, uses
}

func TestKnownByHand(t *testing.T) {
	r := rand.New(rand.NewSource(4))
	for range 1500 {
		houses, most := 1+r.Intn(4), 1+r.Intn(7)
		l, _ := randomAnswers(r, houses, most, r.Intn(4))
		if len(l) > 0 && r.Intn(4) == 0 {
			l[0].Sum = r.Intn(36)
		}
		k, e := access.Known(houses, most, l)
		want, is := knownByHand(houses, most, l)
		if !is {
			same(t, "Known", all(houses, most, l, k, e), all(houses, most, l, ints(), api.ErrInfeasible))
			continue
		}
		same(t, "Known", all(houses, most, l, k, e), all(houses, most, l, want, api.OK))
	}
}

func TestBalanceAndVerdict(t *testing.T) {
	meters := []api.Interval{to(40, 42), to(50, 51), to(5, 15), to(20, 20)}
	most := to(1000000000, 1000000000)
	for _, x := range []struct {
		fed     api.Interval
		l       []api.Interval
		b       api.Interval
		verdict int
	}{
		{to(100, 110), meters[:2], to(7, 20), 1}, {to(100, 110), meters[:3], to(-8, 15), 0}, // as in the examples
		{to(100, 110), nil, to(100, 110), 1}, {to(100, 110), meters, to(-28, -5), -1}, {to(0, 0), nil, to(0, 0), 0}, {to(0, 5), nil, to(0, 5), 0}, {to(1, 5), nil, to(1, 5), 1}, {to(5, 5), []api.Interval{to(5, 6)}, to(-1, 0), 0}, {to(5, 5), []api.Interval{to(6, 6)}, to(-1, -1), -1}, {to(5, 6), []api.Interval{to(0, 4)}, to(1, 6), 1}, {to(5, 6), []api.Interval{to(0, 5)}, to(0, 6), 0},
		{to(0, 1000000000), repeated(to(0, 1000000000), 256), to(-256000000000, 1000000000), 0}, {to(0, 0), repeated(most, 256), to(-256000000000, -256000000000), -1}, {most, repeated(to(0, 0), 256), most, 1},
	} {
		b, e := access.Balance(x.fed, x.l)
		verdict, f := access.Verdict(x.fed, x.l)
		same(t, "Balance, Verdict", all(b, e, verdict, f), all(x.b, api.OK, x.verdict, api.OK))
	}
}

func TestBalanceOfWrongArguments(t *testing.T) {
	check := func(fed api.Interval, l []api.Interval, want api.Errno) {
		t.Helper()
		b, e := access.Balance(fed, l)
		verdict, f := access.Verdict(fed, l)
		same(t, "Balance, Verdict", all(fed, b, e, verdict, f), all(fed, to(0, 0), want, 0, want))
	}
	wrong := map[api.Errno][]api.Interval{api.ErrOrder: {to(2, 1), to(1000000000, 0), to(1, 0)}}
	for _, n := range outside(0, 1000000000) {
		wrong[api.ErrRange] = append(wrong[api.ErrRange], to(n, 5), to(5, n), to(n, n), to(n, 1000000001), to(-1, n))
	}
	for e, l := range wrong {
		for _, x := range l {
			check(x, make([]api.Interval, 257), e)
			check(x, nil, e)
			check(to(5, 9), []api.Interval{x}, e)
			check(to(5, 9), []api.Interval{to(0, 0), x, to(2, 1), to(-1, 0)}, e)
			check(to(5, 9), append(make([]api.Interval, 255), x), e)
		}
	}
	check(to(5, 9), make([]api.Interval, 257), api.ErrMany)
	check(to(5, 9), repeated(to(2, 1), 257), api.ErrMany)
	check(to(5, 9), repeated(to(-1, 0), 100000), api.ErrMany)
}
