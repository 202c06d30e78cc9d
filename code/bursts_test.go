package code_test

import (
	"math"
	"math/rand"
	"testing"

	"kilovar/api"
	"kilovar/code"
)

// P3.3

func TestSpread(t *testing.T) {
	for _, x := range []struct {
		rows [][]int
		l    []int
	}{
		{lists(ints(1, 2, 3), ints(4, 5, 6)), ints(1, 4, 2, 5, 3, 6)},
		{lists(ints(1, 5), ints(4, 3), ints(2, 6)), ints(1, 4, 2, 5, 3, 6)},
		{lists(ints(16, 0, 7)), ints(16, 0, 7)},
		{lists(ints(1), ints(2), ints(3)), ints(1, 2, 3)},
		{make([][]int, 16), nil},
		{lists(ints()), nil},
		{lists(nil, ints(), nil), nil},
		{repeated(repeated(16, 16), 16), repeated(16, 256)},
	} {
		l, e := code.Spread(x.rows)
		same(t, "Spread", all(l, e), all(x.l, api.OK))
		rows, e := code.Gathered(x.l, len(x.rows))
		same(t, "Gathered", all(rows, e), all(x.rows, api.OK))
	}
}

func TestSpreadWithErrors(t *testing.T) {
	for _, x := range rowErrors {
		l, e := code.Spread(x.rows)
		same(t, "Spread with errors", all(x.rows, l, e), all(x.rows, ints(), x.e))
	}
	for _, rows := range [][][]int{make([][]int, 17), repeated(ints(17), 17), append(make([][]int, 16), ints(1)), repeated(make([]int, 17), 17)} {
		l, e := code.Spread(rows)
		same(t, "Spread of too many rows", all(l, e), all(ints(), api.ErrMany))
	}
}

func TestGathered(t *testing.T) {
	for _, x := range []struct {
		l    []int
		rows int
		g    [][]int
		e    api.Errno
	}{
		{nil, 3, lists(nil, nil, nil), api.OK}, {nil, 16, make([][]int, 16), api.OK}, {nil, 1, lists(nil), api.OK},
		{ints(1, 4, 2, 5, 3, 6), 6, lists(ints(1), ints(4), ints(2), ints(5), ints(3), ints(6)), api.OK},
		{ints(1, 4, 2, 5, 3, 6), 1, lists(ints(1, 4, 2, 5, 3, 6)), api.OK},
		{ints(1, 4, 2, 5, 3, 6), 4, nil, api.ErrShape}, {ints(1), 2, nil, api.ErrShape}, {make([]int, 35), 2, nil, api.ErrShape}, {make([]int, 255), 16, nil, api.ErrShape},
		{make([]int, 17), 1, nil, api.ErrMany}, {make([]int, 34), 2, nil, api.ErrMany}, {make([]int, 256), 8, nil, api.ErrMany}, {make([]int, 255), 15, nil, api.ErrMany},
		{make([]int, 32), 2, lists(make([]int, 16), make([]int, 16)), api.OK},
		{ints(1), 0, nil, api.ErrRange}, {ints(1), 17, nil, api.ErrRange}, {ints(1), -1, nil, api.ErrRange}, {nil, math.MinInt, nil, api.ErrRange}, {nil, math.MaxInt, nil, api.ErrRange},
	} {
		g, e := code.Gathered(x.l, x.rows)
		same(t, "Gathered", all(g, e), all(x.g, x.e))
	}
	for _, x := range freeErrors {
		for _, rows := range ints(0, 1, 2, 16) {
			g, e := code.Gathered(x.l, rows)
			same(t, "Gathered with errors", all(g, e), all(lists(), x.e))
		}
	}
}

func TestBurst(t *testing.T) {
	for _, x := range []struct {
		rows, length, many, n int
		e                     api.Errno
	}{
		{2, 3, 3, 2, api.OK}, {2, 3, 4, 2, api.OK}, {2, 3, 2, 1, api.OK}, {2, 3, 1, 1, api.OK}, {2, 3, 0, 0, api.OK}, {2, 3, 5, 3, api.OK}, {2, 3, 6, 3, api.OK}, {2, 3, 7, 3, api.OK}, {2, 3, 256, 3, api.OK},
		{4, 4, 1, 1, api.OK}, {1, 16, 7, 7, api.OK}, {16, 16, 256, 16, api.OK}, {16, 16, 241, 16, api.OK}, {16, 16, 240, 15, api.OK}, {1, 1, 256, 1, api.OK}, {16, 1, 15, 1, api.OK}, {1, 1, 0, 0, api.OK},
		{0, 3, 3, 0, api.ErrRange}, {17, 3, 3, 0, api.ErrRange}, {-1, 3, 3, 0, api.ErrRange}, {2, 0, 3, 0, api.ErrRange}, {2, 17, 3, 0, api.ErrRange}, {2, 3, -1, 0, api.ErrRange}, {2, 3, 257, 0, api.ErrRange},
		{math.MinInt, 3, 3, 0, api.ErrRange}, {2, math.MaxInt, 3, 0, api.ErrRange}, {2, 3, math.MaxInt, 0, api.ErrRange},
	} {
		n, e := code.Burst(x.rows, x.length, x.many)
		same(t, "Burst", all(x, n, e), all(x, x.n, x.e))
	}
}

// hitsOf is the most symbols of one row that a burst hits, wherever it begins.
func hitsOf(rows, length, many int) int {
	many = min(many, rows*length)
	most := 0
	for from := 0; from+many <= rows*length; from++ {
		hits := make([]int, rows)
		for i := from; i < from+many; i++ {
			hits[i%rows]++
			most = max(most, hits[i%rows])
		}
	}
	return most
}

func TestAllBursts(t *testing.T) {
	r := rand.New(rand.NewSource(6))
	for rows := 1; rows <= 16; rows++ {
		for length := 1; length <= 16; length++ {
			for _, many := range ints(0, 1, rows, rows+1, r.Intn(rows*length+1), rows*length, r.Intn(257)) {
				n, e := code.Burst(rows, length, many)
				same(t, "Burst", all(rows, length, many, n, e), all(rows, length, many, hitsOf(rows, length, many), api.OK))
			}
		}
	}
}

func TestSurvives(t *testing.T) {
	for _, x := range []struct {
		c          code.Code
		rows, many int
		free, told bool
		e          api.Errno
	}{
		{small(), 2, 0, true, true, api.OK}, {small(), 2, 2, true, true, api.OK}, {small(), 2, 3, false, true, api.OK}, {small(), 2, 4, false, true, api.OK}, {small(), 2, 5, false, false, api.OK}, {small(), 2, 256, false, false, api.OK},
		{small(), 8, 0, true, true, api.OK}, {small(), 16, 16, true, true, api.OK}, {small(), 16, 17, false, true, api.OK},
		{of(2, 1), 1, 1, false, true, api.OK}, {of(2, 1), 1, 0, true, true, api.OK}, {of(4, 3), 1, 1, true, true, api.OK}, {of(4, 3), 1, 2, false, true, api.OK}, {of(4, 3), 1, 3, false, true, api.OK}, {of(4, 3), 1, 4, false, false, api.OK},
		{of(16, 8), 16, 64, true, true, api.OK}, {of(16, 8), 16, 65, false, true, api.OK}, {of(16, 8), 16, 128, false, true, api.OK}, {of(16, 8), 16, 129, false, false, api.OK}, {of(9, 8), 1, 256, false, false, api.OK},
		{of(17, 8), 2, 2, false, false, api.ErrRange}, {of(4, 0), 2, 2, false, false, api.ErrRange}, {of(4, 4), 0, -1, false, false, api.ErrOrder},
		{small(), 0, 0, false, false, api.ErrRange}, {small(), 17, 0, false, false, api.ErrRange}, {small(), 2, -1, false, false, api.ErrRange}, {small(), 2, 257, false, false, api.ErrRange},
	} {
		free, e := code.Survives(x.c, x.rows, x.many, false)
		same(t, "Survives", all(x, free, e), all(x, x.free, x.e))
		told, e := code.Survives(x.c, x.rows, x.many, true)
		same(t, "Survives, told the place", all(x, told, e), all(x, x.told, x.e))
	}
}

func TestSurvivesOfAllCodes(t *testing.T) {
	r := rand.New(rand.NewSource(7))
	for _, c := range allCodes(15) {
		for range 10 {
			rows, many := 1+r.Intn(16), r.Intn(100)
			hits := hitsOf(rows, c.Length, many)
			free, e := code.Survives(c, rows, many, false)
			same(t, "Survives", all(c, rows, many, free, e), all(c, rows, many, 2*hits <= c.Checks, api.OK))
			told, e := code.Survives(c, rows, many, true)
			same(t, "Survives, told the place", all(c, rows, many, told, e), all(c, rows, many, hits <= c.Checks, api.OK))
		}
	}
}
