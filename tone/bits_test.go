package tone_test

import (
	"math/rand"
	"testing"

	"kilovar/api"
	"kilovar/tone"
)

// P2.3

// flags returns bits from a string of the digits 0 and 1.
func flags(s string) []bool {
	var out []bool
	for _, r := range s {
		out = append(out, r == '1')
	}
	return out
}

func randomData(r *rand.Rand, n int) []bool {
	var out []bool
	for range n {
		out = append(out, r.Intn(2) == 1)
	}
	return out
}

func TestLoaded(t *testing.T) {
	for _, x := range []struct {
		bits   []int
		data   string
		levels [][]int
	}{
		{ints(2, 1), "10111", [][]int{{3, 1}, {2, 0}}},
		{ints(0, 3), "111001", [][]int{{0, 5}, {0, 1}}},
		{ints(2), "", nil},
		{ints(2), "00011110", [][]int{{0}, {1}, {2}, {3}}},
		{ints(3), "000001011010110111101100", [][]int{{0}, {1}, {2}, {3}, {4}, {5}, {6}, {7}}},
		{ints(1, 0, 1), "1", [][]int{{1, 0, 0}}},
		{ints(6, 6), "1000001", [][]int{{63, 63}}},
		{ints(1, 2, 3), "111110", [][]int{{1, 2, 4}}},
		{ints(1, 2, 3), "1111101", [][]int{{1, 2, 4}, {1, 0, 0}}},
	} {
		l, e := tone.Loaded(x.bits, flags(x.data))
		same(t, "Loaded", all(l, e), all(x.levels, api.OK))
		if n := len(x.data); n > 0 {
			d, e := tone.Unloaded(x.bits, x.levels, n)
			same(t, "Unloaded", all(d, e), all(flags(x.data), api.OK))
		}
	}
	l, e := tone.Loaded(ints(1), make([]bool, 1024))
	same(t, "Loaded of the most bits", all(len(l), e), all(1024, api.OK))
}

// mapErrors are maps for data that are none, and their errors.
var mapErrors = []struct {
	bits []int
	e    api.Errno
}{
	{nil, api.ErrEmpty}, {ints(0, 0, 0, 0, 0, 0, 0, 0, 0), api.ErrMany}, {repeated(7, 9), api.ErrMany},
	{ints(7), api.ErrRange}, {ints(1, -1), api.ErrRange}, {ints(0, 0, -1), api.ErrRange},
	{ints(0), api.ErrZero}, {ints(0, 0, 0, 0, 0, 0, 0, 0), api.ErrZero},
}

func TestLoadedWithErrors(t *testing.T) {
	for _, x := range mapErrors {
		for _, n := range ints(0, 1, 1025) {
			l, e := tone.Loaded(x.bits, make([]bool, n))
			same(t, "Loaded by no map", all(l, e), all([][]int{}, x.e))
		}
		d, e := tone.Unloaded(x.bits, [][]int{{-1}}, -1)
		same(t, "Unloaded by no map", all(d, e), all(flags(""), x.e))
	}
	l, e := tone.Loaded(ints(0, 0, 0, 0, 0, 0, 0, 1), make([]bool, 1025))
	same(t, "Loaded of too many bits", all(l, e), all([][]int{}, api.ErrMany))
}

func TestUnloaded(t *testing.T) {
	for _, x := range []struct {
		bits   []int
		levels [][]int
		n      int
		data   string
		e      api.Errno
	}{
		{ints(2, 1), [][]int{{3, 1}, {2, 0}}, 5, "10111", api.OK},
		{ints(2, 1), [][]int{{3, 1}, {2, 0}}, 6, "101110", api.OK},
		{ints(2, 1), [][]int{{3, 1}, {2, 0}}, 1, "1", api.OK},
		{ints(2, 1), [][]int{{3, 1}, {2, 0}}, 0, "", api.OK},
		{ints(2, 1), nil, 0, "", api.OK},
		{ints(2, 1), [][]int{{3, 1}, {2, 0}}, 7, "", api.ErrShort},
		{ints(2, 1), nil, 1, "", api.ErrShort},
		{ints(2, 1), [][]int{{3}}, 0, "", api.ErrShape},
		{ints(2, 1), [][]int{{3, 1, 0}}, 0, "", api.ErrShape},
		{ints(2, 1), [][]int{{3, 1}, nil}, 0, "", api.ErrShape},
		{ints(2, 1), [][]int{{4, 1}}, 0, "", api.ErrRange},
		{ints(2, 1), [][]int{{3, 2}}, 0, "", api.ErrRange},
		{ints(2, 1), [][]int{{-1, 1}}, 0, "", api.ErrRange},
		{ints(2, 0), [][]int{{0, 1}}, 0, "", api.ErrRange},
		{ints(2, 0), [][]int{{0, -1}}, 0, "", api.ErrRange},
		{ints(6), [][]int{{64}}, 0, "", api.ErrRange},
		{ints(6), [][]int{{63}}, 6, "100000", api.OK},
		{ints(2, 1), [][]int{{4, 1}, {0}}, 0, "", api.ErrRange},
		{ints(2, 1), [][]int{{0}, {4, 1}}, 0, "", api.ErrShape},
		{ints(2, 1), [][]int{{0}}, 1025, "", api.ErrShape},
		{ints(2, 1), nil, -1, "", api.ErrRange},
		{ints(2, 1), nil, 1025, "", api.ErrRange},
		{ints(2, 1), nil, 1024, "", api.ErrShort},
	} {
		d, e := tone.Unloaded(x.bits, x.levels, x.n)
		same(t, "Unloaded", all(d, e), all(flags(x.data), x.e))
	}
	d, e := tone.Unloaded(ints(1), repeated(ints(1), 1024), 1024)
	same(t, "Unloaded of the most symbols", all(len(d), e), all(1024, api.OK))
	d, e = tone.Unloaded(ints(1), repeated(ints(2), 1025), 0)
	same(t, "Unloaded of too many symbols", all(d, e), all(flags(""), api.ErrMany))
}

// loadedOf computes levels by a search for the one with some bits.
func loadedOf(bits []int, data []bool) [][]int {
	var out [][]int
	for len(data) > 0 {
		var symbol []int
		for _, n := range bits {
			number := 0
			for i := range n {
				if i < len(data) && data[i] {
					number += 1 << (n - 1 - i)
				}
			}
			data = data[min(n, len(data)):]
			level := 0
			for level^(level/2) != number {
				level++
			}
			symbol = append(symbol, level)
		}
		out = append(out, symbol)
	}
	return out
}

func TestRandomData(t *testing.T) {
	r := rand.New(rand.NewSource(3))
	for range 500 {
		bits := append(randomBits(r, r.Intn(8)), 1)
		data := randomData(r, r.Intn(200))
		l, e := tone.Loaded(bits, data)
		same(t, "Loaded", all(l, e), all(loadedOf(bits, data), api.OK))
	}
}

func TestVoted(t *testing.T) {
	for _, x := range []struct {
		copies [][]int
		vote   []int
		e      api.Errno
	}{
		{[][]int{{1, 0, -1}, {1, 1, -1}, {0, -1, 1}}, ints(1, -1, 1), api.OK},
		{[][]int{{1, 0, -1}}, ints(1, 0, -1), api.OK},
		{[][]int{{1, 0, 0}, {0, 0, -1}}, ints(-1, 0, 0), api.OK},
		{[][]int{{0}, {-1}, {-1}, {-1}}, ints(0), api.OK},
		{[][]int{{}}, nil, api.OK},
		{[][]int{{}, nil, {}}, nil, api.OK},
		{nil, nil, api.ErrEmpty},
		{repeated(ints(1), 15), ints(1), api.OK},
		{repeated(ints(1), 16), nil, api.ErrMany},
		{repeated(ints(2), 16), nil, api.ErrMany},
		{[][]int{{1}, {1, 0}}, nil, api.ErrShape},
		{[][]int{{1}, {}}, nil, api.ErrShape},
		{[][]int{{1, 0}, {7}}, nil, api.ErrShape},
		{[][]int{{2}, {1, 0}}, nil, api.ErrRange},
		{[][]int{{1, -2}, {1}}, nil, api.ErrRange},
		{[][]int{{1}, {2}}, nil, api.ErrRange},
		{[][]int{make([]int, 1025)}, nil, api.ErrMany},
		{[][]int{append(make([]int, 1024), 2)}, nil, api.ErrMany},
		{[][]int{make([]int, 1024), make([]int, 1025)}, nil, api.ErrShape},
		{[][]int{make([]int, 1024)}, make([]int, 1024), api.OK},
	} {
		l, e := tone.Voted(x.copies)
		same(t, "Voted", all(l, e), all(x.vote, x.e))
	}
}

func TestRandomVotes(t *testing.T) {
	r := rand.New(rand.NewSource(4))
	for range 300 {
		copies := make([][]int, 1+r.Intn(15))
		counts := [20][3]int{}
		for i := range copies {
			for k := range counts {
				x := r.Intn(3) - 1
				copies[i] = append(copies[i], x)
				counts[k][x+1]++
			}
		}
		var want []int
		for _, n := range counts {
			switch {
			case n[2] > n[1]:
				want = append(want, 1)
			case n[2] < n[1]:
				want = append(want, 0)
			default:
				want = append(want, -1)
			}
		}
		l, e := tone.Voted(copies)
		same(t, "Voted", all(l, e), all(want, api.OK))
	}
}
