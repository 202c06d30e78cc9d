package tariff_test

import (
	"math"
	"math/bits"
	"math/rand"
	"slices"
	"testing"

	"kilovar/api"
	"kilovar/tariff"
)

// P7.4

// loadErrors are loads that are none, and their errors.
func loadErrors() []struct {
	l tariff.Load
	e api.Errno
} {
	return []struct {
		l tariff.Load
		e api.Errno
	}{
		{tariff.Load{}, api.ErrRange}, {load(75600, 93600, 1000, 2, 1, 3), api.ErrRange}, {load(75600, 93600, 0, 2, 1, 3), api.ErrRange}, {load(75600, 93600, -3600, 2, 1, 3), api.ErrRange}, {load(75600, 93600, 7200, 2, 1, 3), api.ErrRange}, {load(75600, 75600, 450, 2, 1, 3), api.ErrRange}, {load(75600, 93600, math.MinInt, 2, 1, 3), api.ErrRange}, {load(75600, 93600, math.MaxInt, 2, 1, 3), api.ErrRange},
		{load(75601, 75600, 3600, 2, 1, 3), api.ErrRange}, {load(75600, 75601, 3600, 2, 1, 3), api.ErrRange}, {load(75600, 95400, 3600, 2, 1, 3), api.ErrRange}, {load(-3600, 3600, 3600, 2, 1, 3), api.ErrRange}, {load(3600, -3600, 3600, 2, 1, 3), api.ErrRange}, {load(100000800, 900, 900, 2, 1, 3), api.ErrRange}, {load(900, 100000800, 900, 2, 1, 3), api.ErrRange}, {load(math.MinInt, 900, 900, 2, 1, 3), api.ErrRange}, {load(900, math.MaxInt, 900, 2, 1, 3), api.ErrRange}, {load(math.MaxInt, math.MinInt, 900, 2, 1, 3), api.ErrRange},
		{load(75600, 75600, 3600, 2, 1, 3), api.ErrSpan}, {load(75600, 72000, 3600, 2, 1, 3), api.ErrSpan}, {load(75600, 0, 900, 0, 0, 0), api.ErrSpan}, {load(99999900, 0, 900, 25, 25, 0), api.ErrSpan}, {load(0, 0, 900, 2, 1, 3), api.ErrSpan},
		{load(75600, 75600+25*3600, 3600, 2, 1, 3), api.ErrMany}, {load(0, 25*900, 900, 0, 0, 0), api.ErrMany}, {load(0, 99999900, 900, 2, 1, 3), api.ErrMany}, {load(0, 24*3600, 1800, 2, 1, 3), api.ErrMany},
		{load(75600, 93600, 3600, 0, 1, 3), api.ErrRange}, {load(75600, 93600, 3600, 25, 1, 3), api.ErrRange}, {load(75600, 93600, 3600, -1, 0, 0), api.ErrRange}, {load(75600, 93600, 3600, math.MaxInt, 1, 3), api.ErrRange}, {load(75600, 93600, 3600, math.MinInt, 1, 3), api.ErrRange},
		{load(75600, 93600, 3600, 2, 0, 3), api.ErrRange}, {load(75600, 93600, 3600, 2, 25, 3), api.ErrRange}, {load(75600, 93600, 3600, 2, math.MaxInt, 3), api.ErrRange}, {load(75600, 93600, 3600, 6, 0, 3), api.ErrRange},
		{load(75600, 93600, 3600, 2, 1, 0), api.ErrRange}, {load(75600, 93600, 3600, 2, 1, 100001), api.ErrRange}, {load(75600, 93600, 3600, 6, 1, 0), api.ErrRange}, {load(75600, 93600, 3600, 2, 1, math.MinInt), api.ErrRange},
		{load(75600, 93600, 3600, 6, 1, 3), api.ErrShort}, {load(0, 900, 900, 2, 1, 3), api.ErrShort}, {load(0, 23*900, 900, 24, 24, 100000), api.ErrShort},
	}
}

func TestCheckLoad(t *testing.T) {
	for _, l := range []tariff.Load{night(), morning(), load(0, 900, 900, 1, 1, 1), load(0, 1800, 1800, 1, 24, 100000), load(75600, 93600, 3600, 5, 24, 3), load(0, 24*3600, 3600, 24, 24, 100000), load(900, 25*900, 900, 1, 1, 1), load(99996300, 99999900, 900, 4, 1, 1)} {
		same(t, "CheckLoad", all(l, tariff.CheckLoad(l)), all(l, api.OK))
	}
	for i, x := range loadErrors() {
		same(t, "CheckLoad", all(i, tariff.CheckLoad(x.l)), all(i, x.e))
		runs, n, e := tariff.Cheapest(book(), x.l)
		same(t, "Cheapest of a wrong load", all(i, runs, n, e), all(i, ints(), 0, x.e))
		n, e = tariff.CheckRuns(book(), x.l, nil)
		same(t, "CheckRuns of a wrong load", all(i, n, e), all(i, 0, x.e))
		n, e = tariff.Bound(book(), x.l, -1)
		same(t, "Bound of a wrong load", all(i, n, e), all(i, 0, x.e))
	}
}

// tilted returns a calendar with a price for each of the first hours of a day, and the last one of them for all others.
func tilted(prices ...int) tariff.Calendar {
	x := flat(0)
	x.Prices, x.Types[0] = prices, nil
	for hour := range prices {
		x.Types[0] = append(x.Types[0], tariff.Switch{At: 3600 * hour, Rate: hour})
	}
	return alone(x)
}

// hours returns a load of the first hours of a day.
func hours(n, runs, starts int) tariff.Load { return load(0, 3600*n, 3600, runs, starts, 1) }

func TestCheapest(t *testing.T) {
	for _, x := range []struct {
		c    tariff.Calendar
		l    tariff.Load
		runs []int
		cost int
	}{
		{book(), night(), ints(1, 2), 300}, {book(), morning(), ints(0, 1), 450}, {book(), load(75600, 93600, 3600, 5, 1, 1), ints(0, 1, 2, 3, 4), 300}, {book(), load(18000, 82800, 3600, 2, 2, 1), ints(0, 17), 100}, {book(), load(18000, 82800, 3600, 2, 1, 1), ints(0, 1), 150},
		{tilted(5, 1, 5, 1, 5, 1), hours(6, 3, 3), ints(1, 3, 5), 3}, {tilted(5, 1, 5, 1, 5, 1), hours(6, 3, 2), ints(0, 1, 3), 7}, {tilted(5, 1, 5, 1, 5, 1), hours(6, 3, 1), ints(1, 2, 3), 7}, {tilted(5, 1, 5, 1, 5, 1), hours(6, 2, 1), ints(0, 1), 6}, {tilted(5, 1, 5, 1, 5, 1), hours(6, 2, 2), ints(1, 3), 2}, {tilted(5, 1, 5, 1, 5, 1), hours(6, 1, 1), ints(1), 1},
		{tilted(5, 1, 5, 1, 5, 1), hours(6, 4, 3), ints(0, 1, 3, 5), 8}, {tilted(5, 1, 5, 1, 5, 1), hours(6, 4, 2), ints(1, 2, 3, 5), 8}, {tilted(5, 1, 5, 1, 5, 1), hours(6, 4, 1), ints(0, 1, 2, 3), 12}, {tilted(5, 1, 5, 1, 5, 1), hours(6, 5, 1), ints(1, 2, 3, 4, 5), 13}, {tilted(5, 1, 5, 1, 5, 1), hours(6, 5, 24), ints(0, 1, 2, 3, 5), 13},
		{tilted(3, 3, 3, 3, 3), hours(5, 3, 3), ints(0, 1, 2), 9}, {tilted(3, 0, 3, 3, 0), hours(5, 3, 2), ints(0, 1, 4), 3}, {tilted(3, 0, 2, 2, 0), hours(5, 3, 1), ints(1, 2, 3), 4}, {tilted(0, 9, 9, 1, 0), hours(5, 2, 2), ints(0, 4), 0}, {tilted(0, 9, 9, 1, 0), hours(5, 2, 1), ints(3, 4), 1}, {tilted(0, 9, 9, 1, 0), hours(5, 3, 2), ints(0, 3, 4), 1},
		{alone(flat(100000)), load(0, 24*900, 900, 24, 24, 100000), nil, 240000000000}, {alone(flat(0, tariff.Block{From: 1, Add: 50})), hours(3, 2, 1), ints(0, 1), 0},
		{calendar(10, version(0, -10, young()), version(20, 5, flat(1))), load(1724400, 1735200, 3600, 2, 1, 7), ints(1, 2), 14},
	} {
		if x.runs == nil {
			for i := range x.l.Runs {
				x.runs = append(x.runs, i)
			}
		}
		runs, cost, e := tariff.Cheapest(x.c, x.l)
		same(t, "Cheapest", all(x.l, runs, cost, e), all(x.l, x.runs, x.cost, api.OK))
	}
}

// modelCost returns the cost of the runs in a set, and whether they are as many as there must be, with at most as many starts as there may be.
func modelCost(c tariff.Calendar, l tariff.Load, set uint) ([]int, int, bool) {
	var runs []int
	cost, starts := 0, 0
	for i := range (l.To - l.From) / l.Step {
		if set>>i%2 == 0 {
			continue
		}
		if i == 0 || set>>(i-1)%2 == 0 {
			starts++
		}
		rate, _ := modelRate(c, l.From+i*l.Step)
		runs, cost = append(runs, i), cost+l.Energy*rate.Price
	}
	return runs, cost, bits.OnesCount(set) == l.Runs && starts <= l.Starts
}

// TestCheapestOfAll compares all sets of intervals.
func TestCheapestOfAll(t *testing.T) {
	r := rand.New(rand.NewSource(5))
	for range 300 {
		c := randomCalendar(r)
		l := randomLoad(r, lateDay(r, c), 10)
		var want []int
		least := math.MaxInt
		for set := range uint(1) << ((l.To - l.From) / l.Step) {
			runs, cost, permitted := modelCost(c, l, set)
			if permitted && (cost < least || cost == least && slices.Compare(runs, want) < 0) {
				want, least = runs, cost
			}
			if len(runs) == l.Runs {
				n, e := tariff.CheckRuns(c, l, runs)
				if permitted {
					same(t, "CheckRuns", all(runs, n, e), all(runs, cost, api.OK))
				} else {
					same(t, "CheckRuns with too many starts", all(runs, n, e), all(runs, 0, api.ErrLimit))
				}
			}
		}
		runs, cost, e := tariff.Cheapest(c, l)
		same(t, "Cheapest", all(l, runs, cost, e), all(l, want, least, api.OK))
	}
}

func TestCheckRuns(t *testing.T) {
	two := night()
	two.Starts = 2
	for i, x := range []struct {
		c    tariff.Calendar
		l    tariff.Load
		runs []int
		cost int
		e    api.Errno
	}{
		{book(), night(), ints(1, 2), 300, api.OK}, {book(), night(), ints(0, 1), 450, api.OK}, {book(), night(), ints(3, 4), 300, api.OK}, {book(), two, ints(1, 3), 300, api.OK}, {book(), two, ints(0, 4), 450, api.OK}, {book(), two, ints(1, 2), 300, api.OK},
		{book(), night(), ints(1, 3), 0, api.ErrLimit}, {book(), night(), ints(0, 4), 0, api.ErrLimit},
		{book(), night(), ints(1), 0, api.ErrShape}, {book(), night(), nil, 0, api.ErrShape}, {book(), night(), ints(1, 2, 3), 0, api.ErrShape}, {book(), night(), ints(9), 0, api.ErrShape}, {book(), night(), repeated(-1, 100000), 0, api.ErrShape},
		{book(), night(), ints(4, 5), 0, api.ErrUnknown}, {book(), night(), ints(-1, 0), 0, api.ErrUnknown}, {book(), night(), ints(5, 4), 0, api.ErrUnknown}, {book(), night(), ints(4, -1), 0, api.ErrUnknown}, {book(), night(), ints(math.MinInt, math.MaxInt), 0, api.ErrUnknown}, {book(), night(), ints(0, math.MaxInt), 0, api.ErrUnknown},
		{book(), night(), ints(2, 2), 0, api.ErrOrder}, {book(), night(), ints(2, 1), 0, api.ErrOrder}, {book(), load(0, 3600, 900, 3, 1, 1), ints(1, 1, 9), 0, api.ErrOrder}, {book(), load(0, 3600, 900, 3, 1, 1), ints(1, 9, 1), 0, api.ErrUnknown},
		{from(1, young()), load(75600, 93600, 3600, 2, 1, 3), ints(3, 4), 0, api.ErrNone}, {from(1, young()), load(82800, 93600, 3600, 2, 1, 3), ints(0, 2), 0, api.ErrNone}, {from(1, young()), load(82800, 93600, 3600, 2, 1, 3), ints(1, 1), 0, api.ErrOrder}, {from(1, young()), load(86400, 93600, 3600, 2, 1, 3), ints(0, 1), 480, api.OK},
	} {
		n, e := tariff.CheckRuns(x.c, x.l, x.runs)
		same(t, "CheckRuns", all(i, n, e), all(i, x.cost, x.e))
	}
}

func TestBound(t *testing.T) {
	for _, x := range []struct {
		c    tariff.Calendar
		l    tariff.Load
		p, n int
	}{
		{book(), morning(), 100, 450}, {book(), morning(), 50, 300}, {book(), morning(), 0, 0}, {book(), morning(), 200, -450}, {book(), morning(), 75, 375}, {book(), night(), 50, 300}, {book(), night(), 51, 3 * (102 - 4)}, {book(), night(), 100000, 3 * (200000 - 4*99950 - 99900)},
		{alone(flat(100000)), load(0, 24*900, 900, 24, 24, 100000), 100000, 240000000000}, {alone(flat(0)), load(0, 24*900, 900, 1, 24, 100000), 100000, -230000000000}, {alone(flat(10, tariff.Block{From: 1, Add: 50})), hours(3, 2, 1), 10, 20},
	} {
		n, e := tariff.Bound(x.c, x.l, x.p)
		same(t, "Bound", all(x.l, x.p, n, e), all(x.l, x.p, x.n, api.OK))
	}
	for _, price := range append(far(), -1, 100001) {
		n, e := tariff.Bound(book(), night(), price)
		same(t, "Bound of a wrong price", all(price, n, e), all(price, 0, api.ErrRange))
		n, e = tariff.Bound(from(9, young()), night(), price)
		same(t, "Bound of a wrong price without a version", all(price, n, e), all(price, 0, api.ErrRange))
	}
}

// TestLoadsBeforeTheFirstVersion has intervals without a price, also if they are not needed.
func TestLoadsBeforeTheFirstVersion(t *testing.T) {
	for _, l := range []tariff.Load{night(), morning(), load(82800, 93600, 3600, 1, 1, 1), load(86400-900, 86400, 900, 1, 1, 1)} {
		runs, n, e := tariff.Cheapest(from(1, young()), l)
		same(t, "Cheapest", all(l, runs, n, e), all(l, ints(), 0, api.ErrNone))
		n, e = tariff.Bound(from(1, young()), l, 80)
		same(t, "Bound", all(l, n, e), all(l, 0, api.ErrNone))
	}
	runs, n, e := tariff.Cheapest(from(1, young()), load(86400, 93600, 3600, 1, 1, 1))
	same(t, "Cheapest", all(runs, n, e), all(ints(0), 80, api.OK))
}
