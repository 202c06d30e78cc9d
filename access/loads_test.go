package access_test

import (
	"math/rand"
	"slices"
	"testing"

	"kilovar/access"
	"kilovar/api"
)

// P9.4: turns

// three are the loads of the examples.
func three() []access.Load {
	return []access.Load{load("a", 6), load("b", 5), load("c", 4)}
}

func TestTurns(t *testing.T) {
	var eight []access.Load
	for _, name := range names(8) {
		eight = append(eight, load(name, 1000))
	}
	whole := ints(0, 1, 2, 3, 4, 5, 6, 7)
	for _, x := range []struct {
		l            []access.Load
		limit, slots int
		want         [][]int
	}{
		{three(), 10, 3, [][]int{{0, 2}, {1, 2}, {0, 2}}}, // as in the examples
		{three(), 10, 6, [][]int{{0, 2}, {1, 2}, {0, 2}, {1, 2}, {0, 2}, {1, 2}}}, {three(), 15, 2, [][]int{{0, 1, 2}, {0, 1, 2}}}, {three(), 14, 3, [][]int{{0, 1}, {0, 2}, {1, 2}}}, {three(), 9, 4, [][]int{{0}, {1, 2}, {0}, {1, 2}}}, {three(), 6, 3, [][]int{{0}, {1}, {2}}}, {three(), 5, 4, [][]int{{1}, {2}, {1}, {2}}}, {three(), 3, 2, [][]int{{}, {}}}, {three(), 0, 1, [][]int{{}}},
		{three(), 9, 0, nil}, {nil, 9, 2, [][]int{{}, {}}}, {nil, 0, 0, nil}, {[]access.Load{load("a", 0), load("b", 7)}, 0, 2, [][]int{{0}, {0}}}, {[]access.Load{load("a", 1000), load("b", 1000), load("A", 0)}, 1000, 3, [][]int{{0, 2}, {1, 2}, {0, 2}}},
		{eight, 8000, 64, repeated(whole, 64)}, {eight, 7999, 2, [][]int{{0, 1, 2, 3, 4, 5, 6}, {0, 1, 2, 3, 4, 5, 7}}}, {eight, 3000, 3, [][]int{{0, 1, 2}, {3, 4, 5}, {0, 6, 7}}},
		{[]access.Load{load("a", 3), load("b", 2), load("c", 2)}, 4, 4, [][]int{{0}, {1, 2}, {0}, {1, 2}}}, {[]access.Load{load("a", 9), load("b", 2), load("c", 1)}, 2, 4, [][]int{{1}, {2}, {1}, {2}}},
	} {
		l, e := access.Turns(x.l, x.limit, x.slots)
		same(t, "Turns", all(l, len(l), e), all(x.want, x.slots, api.OK))
	}
}

func TestTurnsOfWrongArguments(t *testing.T) {
	check := func(l []access.Load, limit, slots int, want api.Errno) {
		t.Helper()
		out, e := access.Turns(l, limit, slots)
		same(t, "Turns", all(l, limit, slots, out, e), all(l, limit, slots, ints(), want))
	}
	check(make([]access.Load, 9), -1, -1, api.ErrMany)
	check(repeated(load("a", 1001), 9), 1, 1, api.ErrMany)
	for _, name := range wrongNames() {
		check([]access.Load{load(name, -1)}, -1, -1, api.ErrName)
		check([]access.Load{load("a", 1), load(name, 1), load("a", 1)}, 1, 1, api.ErrName)
		check([]access.Load{load("a", 1), load(name, 1), load(name, 1)}, 1, 1, api.ErrName)
	}
	check([]access.Load{load("a", 1), load("a", -1)}, -1, -1, api.ErrTwice)
	check([]access.Load{load("a", 1), load("b", 1), load("a", 2), load("", 1)}, 1, 1, api.ErrTwice)
	for _, n := range outside(0, 1000) {
		check([]access.Load{load("a", n)}, -1, -1, api.ErrRange)
		check([]access.Load{load("a", 1), load("b", n), load("a", 1)}, 1, 1, api.ErrRange)
	}
	for _, n := range outside(0, 8000) {
		check(three(), n, -1, api.ErrRange)
		check(three(), n, 1, api.ErrRange)
	}
	for _, n := range outside(0, 64) {
		check(three(), 1, n, api.ErrRange)
		check(nil, 1, n, api.ErrRange)
	}
}

// turnsByHand asks in each slot the one of all loads not asked yet that has had the fewest turns.
func turnsByHand(l []access.Load, limit, slots int) [][]int {
	var out [][]int
	had := make([]int, len(l))
	for range slots {
		turns := slices.Clone(had)
		asked := make([]bool, len(l))
		left := limit
		runs := make([]bool, len(l))
		for range l {
			next := -1
			for i := range l {
				if !asked[i] && (next < 0 || turns[i] < turns[next]) {
					next = i
				}
			}
			asked[next] = true
			if l[next].Power <= left {
				left -= l[next].Power
				runs[next] = true
				had[next]++
			}
		}
		slot := ints()
		for i := range l {
			if runs[i] {
				slot = append(slot, i)
			}
		}
		out = append(out, slot)
	}
	return out
}

func TestTurnsByHand(t *testing.T) {
	r := rand.New(rand.NewSource(6))
	for range 2000 {
		l, limit, slots := randomLoads(r), pick(r, r.Intn(20), r.Intn(20), r.Intn(3000), 8000), pick(r, r.Intn(10), 64)
		got, e := access.Turns(l, limit, slots)
		same(t, "Turns", all(l, limit, got, e), all(l, limit, turnsByHand(l, limit, slots), api.OK))
	}
}
