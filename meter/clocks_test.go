package meter_test

import (
	"math"
	"math/rand"
	"testing"

	"kilovar/api"
	"kilovar/meter"
)

// P6.4

func TestCheckClock(t *testing.T) {
	for _, c := range []meter.Clock{clock(0, 0, 0, 2), clock(100, 5, -2, 10), clock(100000000, 1000000, 1000, 1000), clock(0, -1000000, -1000, 2)} {
		same(t, "CheckClock", meter.CheckClock(c), api.OK)
	}
	for _, c := range clockErrors {
		same(t, "CheckClock of a wrong clock", meter.CheckClock(c), api.ErrRange)
	}
}

func TestTime(t *testing.T) {
	for _, x := range []struct {
		c          meter.Clock
		tick, want int
	}{
		{clock(100, 5, -2, 10), 100, 105}, {clock(100, 5, -2, 10), 109, 114}, {clock(100, 5, -2, 10), 110, 114}, {clock(100, 5, -2, 10), 119, 123}, {clock(100, 5, -2, 10), 120, 123}, {clock(100, 5, -2, 10), 121, 124}, {clock(100, 5, -2, 10), 130, 133}, {clock(100, 5, -2, 10), 100000000, 100000003},
		{clock(100, 5, 2, 10), 109, 114}, {clock(100, 5, 2, 10), 110, 116}, {clock(100, 5, 2, 10), 120, 127}, {clock(100, 5, 2, 10), 130, 137}, {clock(100, 5, 0, 10), 120, 125},
		{clock(0, 0, 0, 2), 0, 0}, {clock(0, 0, 1000, 2), 1, 1}, {clock(0, 0, 1000, 2), 2, 3}, {clock(0, 0, 1000, 2), 3, 4}, {clock(0, 0, -1000, 2), 2, 1}, {clock(0, 0, -1000, 2), 4, 2}, {clock(0, 0, 1000, 1000), 999999, 1000998}, {clock(0, 0, 1000, 1000), 1000000, 1001000}, {clock(0, 0, 1000, 1000), 1001000, 1002000},
		{clock(0, -1000000, 0, 2), 0, -1000000}, {clock(0, -1000000, -1000, 2), 2000, -999000}, {clock(100000000, 1000000, 7, 2), 100000000, 101000000},
	} {
		n, e := meter.Time(x.c, x.tick)
		same(t, "Time", all(x.c, x.tick, n, e), all(x.c, x.tick, x.want, api.OK))
	}
}

// tickErrors are ticks at which the clock of the example cannot be read, and their errors.
func tickErrors() map[int]api.Errno {
	return map[int]api.Errno{-1: api.ErrRange, 100000001: api.ErrRange, math.MinInt: api.ErrRange, math.MaxInt: api.ErrRange, 0: api.ErrOrder, 99: api.ErrOrder}
}

func TestTimeOfWrongArguments(t *testing.T) {
	for _, c := range clockErrors {
		for _, tick := range append(far(), 0, 100000000) {
			n, e := meter.Time(c, tick)
			same(t, "Time of a wrong clock", all(n, e), all(0, api.ErrRange))
		}
	}
	for tick, want := range tickErrors() {
		n, e := meter.Time(clock(100, 5, -2, 10), tick)
		same(t, "Time at a wrong tick", all(n, e), all(0, want))
	}
	n, e := meter.Time(clock(100000000, 0, 0, 2), 99999999)
	same(t, "Time before the last tick", all(n, e), all(0, api.ErrOrder))
}

func TestSet(t *testing.T) {
	for _, x := range []struct {
		c          meter.Clock
		tick, time int
		want       meter.Clock
		jump       int
	}{
		{clock(100, 5, -2, 10), 130, 140, clock(130, 10, 0, 10), 7}, {clock(100, 5, -2, 10), 130, 133, clock(130, 3, 0, 10), 0}, {clock(100, 5, -2, 10), 130, 100, clock(130, -30, 0, 10), -33}, {clock(100, 5, -2, 10), 110, 110, clock(110, 0, 0, 10), -4},
		{clock(100, 5, -2, 10), 100, 0, clock(100, -100, 0, 10), -105}, {clock(0, 0, 0, 2), 0, 0, clock(0, 0, 0, 2), 0}, {clock(0, -1000000, 0, 1000), 0, 1000000, clock(0, 1000000, 0, 1000), 2000000},
		{clock(0, 0, 0, 3), 1000000, 0, clock(1000000, -1000000, 0, 3), -1000000}, {clock(100, 5, -2, 10), 130, 1000130, clock(130, 1000000, 0, 10), 999997}, {clock(0, 0, 7, 2), 100000000, 101000000, clock(100000000, 1000000, 0, 2), 999993}, {clock(0, 0, 0, 2), 100000000, 99000000, clock(100000000, -1000000, 0, 2), -1000000},
	} {
		c, jump, e := meter.Set(x.c, x.tick, x.time)
		same(t, "Set", all(x.tick, x.time, c, jump, e), all(x.tick, x.time, x.want, x.jump, api.OK))
	}
}

func TestSetOfWrongArguments(t *testing.T) {
	check := func(c meter.Clock, tick, time int, want api.Errno) {
		t.Helper()
		got, jump, e := meter.Set(c, tick, time)
		same(t, "Set", all(c, tick, time, got, jump, e), all(c, tick, time, meter.Clock{}, 0, want))
	}
	for _, c := range clockErrors {
		check(c, 100000000, 100000000, api.ErrRange)
		check(c, 0, 0, api.ErrRange)
		check(c, -1, -1, api.ErrRange)
	}
	example := clock(100, 5, -2, 10)
	for tick, want := range tickErrors() {
		check(example, tick, 50, want)
		check(example, tick, -1, want)
		check(example, tick, math.MaxInt, want)
	}
	for _, time := range append(far(), -1, 200000001) {
		check(example, 130, time, api.ErrRange)
		check(example, 100000000, time, api.ErrRange)
	}
	for _, x := range [][2]int{{130, 1000131}, {130, 200000000}, {1000001, 0}, {100000000, 0}, {100000000, 98999999}, {100000000, 101000001}, {100000000, 200000000}, {100, 1000101}} {
		check(example, x[0], x[1], api.ErrLarge)
	}
}

func TestSlewed(t *testing.T) {
	for _, x := range []struct {
		c               meter.Clock
		tick, by, every int
		want            meter.Clock
	}{
		{clock(100, 5, -2, 10), 115, 3, 2, clock(115, 4, 3, 2)}, {clock(100, 5, -2, 10), 100, 0, 10, clock(100, 5, 0, 10)}, {clock(100, 5, -2, 10), 130, -1000, 1000, clock(130, 3, -1000, 1000)}, {clock(100, 5, 2, 10), 110, 1000, 2, clock(110, 6, 1000, 2)},
		{clock(0, 999999, 1, 2), 2, 1000, 2, clock(2, 1000000, 1000, 2)}, {clock(0, 1000000, 1, 2), 1, 1, 2, clock(1, 1000000, 1, 2)}, {clock(0, -1000000, -1, 2), 1, -1, 2, clock(1, -1000000, -1, 2)}, {clock(0, -999000, -1000, 2), 100000000, 7, 9, clock(100000000, -1000000, 7, 9)},
	} {
		c, e := meter.Slewed(x.c, x.tick, x.by, x.every)
		same(t, "Slewed", all(c, e), all(x.want, api.OK))
	}
}

func TestSlewedOfWrongArguments(t *testing.T) {
	check := func(c meter.Clock, tick, by, every int, want api.Errno) {
		t.Helper()
		got, e := meter.Slewed(c, tick, by, every)
		same(t, "Slewed", all(c, tick, by, every, got, e), all(c, tick, by, every, meter.Clock{}, want))
	}
	for _, c := range clockErrors {
		check(c, 100000000, 1, 2, api.ErrRange)
		check(c, 0, 1, 2, api.ErrRange)
		check(c, -1, 5000, 1, api.ErrRange)
	}
	example := clock(100, 5, -2, 10)
	for tick, want := range tickErrors() {
		check(example, tick, 1, 2, want)
		check(example, tick, 1001, 2, want)
		check(example, tick, 1, 1, want)
	}
	for _, by := range append(far(), -1001, 1001) {
		check(example, 130, by, 2, api.ErrRange)
		check(clock(0, 1000000, 1000, 2), 5000, by, 0, api.ErrRange)
	}
	for _, every := range append(far(), 1, 0, -2, 1001) {
		check(example, 130, 1, every, api.ErrRange)
		check(clock(0, 1000000, 1000, 2), 5000, 1, every, api.ErrRange)
	}
	check(clock(0, 1000000, 1, 2), 2, 1, 2, api.ErrLarge)
	check(clock(0, -1000000, -1, 2), 2, 1, 2, api.ErrLarge)
	check(clock(0, 999001, 1000, 2), 2000, 0, 2, api.ErrLarge)
	check(clock(0, -999001, -1000, 2), 100000000, 0, 2, api.ErrLarge)
}

func TestBoundaries(t *testing.T) {
	after := clock(115, 4, 3, 2)
	for _, x := range []struct {
		c                meter.Clock
		from, to, length int
		want             []int
	}{
		{clock(100, 5, -2, 10), 100, 130, 10, ints(105, 116, 127)}, {clock(100, 5, -2, 10), 105, 127, 10, ints(105, 116)}, {clock(100, 5, -2, 10), 106, 128, 10, ints(116, 127)}, {clock(100, 5, -2, 10), 0, 106, 10, ints(105)}, {clock(100, 5, -2, 10), 0, 101, 2, nil}, {clock(100, 5, -2, 10), 0, 102, 2, ints(101)},
		{after, 110, 130, 10, ints(116, 123)}, {clock(100, 0, 0, 2), 99, 121, 10, ints(110, 120)}, {clock(100, 0, 0, 2), 100, 101, 10, nil}, {clock(99, 0, 0, 2), 100, 101, 10, ints(100)}, {clock(101, 0, 0, 2), 100, 111, 10, ints(110)},
		{clock(0, 0, 0, 2), 5, 5, 10, nil}, {clock(0, 0, 0, 2), 0, 0, 10, nil}, {clock(0, 0, 0, 2), 100000000, 100000000, 10, nil}, {clock(0, 0, 0, 2), 99999980, 100000000, 10, ints(99999980, 99999990)}, {clock(0, 0, 0, 2), 1, 6, 100000, nil}, {clock(0, 0, 0, 2), 99990, 100010, 100000, ints(100000)},
		{clock(0, -25, 0, 2), 0, 40, 10, ints(5, 15, 25, 35)}, {clock(0, -20, 0, 2), 0, 21, 10, ints(10, 20)}, {clock(0, -21, 0, 2), 0, 5, 10, ints(1)}, {clock(0, -1000000, 0, 2), 0, 3, 2, ints(2)}, // also before the time 0
		{clock(0, 0, 3, 2), 0, 10, 2, ints(2, 3, 4, 6, 7, 9)}, {clock(0, 0, -3, 2), 0, 10, 2, ints(3, 7, 9)}, // where it is slewed back, the time 2 comes at 3, and stays
	} {
		l, e := meter.Boundaries(x.c, span(x.from, x.to), x.length)
		same(t, "Boundaries", all(x.c, x.from, x.to, x.length, l, e), all(x.c, x.from, x.to, x.length, x.want, api.OK))
	}
	l, e := meter.Boundaries(clock(0, 0, 0, 2), span(7, 4103), 2)
	same(t, "Boundaries of the most ticks", all(len(l), l[0], e), all(2048, 8, api.OK))
}

// TestBoundariesByDefinition compares the times at each two ticks.
func TestBoundariesByDefinition(t *testing.T) {
	r := rand.New(rand.NewSource(5))
	for range 500 {
		c, length := randomClock(r), []int{2, 3, 2 + r.Intn(100)}[r.Intn(3)]
		from := r.Intn(2500)
		to := from + r.Intn(1000)
		var want []int
		for tick := max(from, c.Since+1); tick < to; tick++ {
			before, after := value(meter.Time(c, tick-1)), value(meter.Time(c, tick))
			if math.Floor(float64(after)/float64(length)) > math.Floor(float64(before)/float64(length)) {
				want = append(want, tick)
			}
		}
		l, e := meter.Boundaries(c, span(from, to), length)
		same(t, "Boundaries", all(l, e), all(want, api.OK))
	}
}

func TestBoundariesOfWrongArguments(t *testing.T) {
	check := func(c meter.Clock, from, to, length int, want api.Errno) {
		t.Helper()
		l, e := meter.Boundaries(c, span(from, to), length)
		same(t, "Boundaries", all(c, from, to, length, l, e), all(c, from, to, length, ints(), want))
	}
	for _, c := range clockErrors {
		check(c, 0, 10, 10, api.ErrRange)
		check(c, 1, 0, 10, api.ErrRange)
		check(c, 0, 5000, 1, api.ErrRange)
	}
	example := clock(100, 5, -2, 10)
	for _, length := range ints(10, 1) {
		for _, s := range [][2]int{{-1, 10}, {-1, -1}, {-2, -1}, {100, 99}, {1, 0}, {0, 100000001}, {100000001, 100000001}, {99999999, 100000001}, {math.MinInt, math.MaxInt}, {math.MaxInt, math.MinInt}, {math.MaxInt, math.MaxInt}, {math.MinInt, 0}, {0, math.MaxInt}, {-1, 5000}} {
			check(example, s[0], s[1], length, api.ErrSpan)
		}
		for _, s := range [][2]int{{0, 4097}, {7, 4104}, {0, 100000000}, {99995903, 100000000}} {
			check(example, s[0], s[1], length, api.ErrMany)
		}
	}
	for _, length := range append(far(), 1, 0, -10, 100001) {
		check(example, 100, 130, length, api.ErrRange)
		check(example, 0, 0, length, api.ErrRange)
	}
}
