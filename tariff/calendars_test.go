package tariff_test

import (
	"math"
	"math/rand"
	"slices"
	"testing"

	"kilovar/api"
	"kilovar/tariff"
)

// P7.1

// tariffCase is a change of the tariff T of the examples, and its error after it.
type tariffCase struct {
	change func(t *tariff.Tariff)
	e      api.Errno
}

// changed returns T after changes.
func changed(changes ...func(t *tariff.Tariff)) tariff.Tariff {
	t := old()
	for _, change := range changes {
		change(&t)
	}
	return t
}

func switchCases() []tariffCase {
	return []tariffCase{
		{func(t *tariff.Tariff) { t.Types[1] = nil }, api.ErrEmpty},
		{func(t *tariff.Tariff) { t.Types[0] = nil; t.Types[1] = repeated(tariff.Switch{}, 13) }, api.ErrEmpty},
		{func(t *tariff.Tariff) { t.Types[0] = repeated(tariff.Switch{}, 13); t.Types[1] = nil }, api.ErrMany},
		{func(t *tariff.Tariff) { t.Types[1] = repeated(tariff.Switch{At: -1}, 13) }, api.ErrMany},
		{func(t *tariff.Tariff) { t.Types[0][0].At = -1 }, api.ErrRange},
		{func(t *tariff.Tariff) { t.Types[0][2].At = 86400 }, api.ErrRange},
		{func(t *tariff.Tariff) { t.Types[0][2].At = 86399 }, api.OK},
		{func(t *tariff.Tariff) { t.Types[0][2] = tariff.Switch{At: 86400, Rate: 3} }, api.ErrRange},
		{func(t *tariff.Tariff) { t.Types[0][1].Rate = 3 }, api.ErrUnknown},
		{func(t *tariff.Tariff) { t.Types[0][1].Rate = -1 }, api.ErrUnknown},
		{func(t *tariff.Tariff) { t.Types[0][1].Rate = 2 }, api.OK},
		{func(t *tariff.Tariff) { t.Types[0][0] = tariff.Switch{At: 1, Rate: 3} }, api.ErrUnknown},
		{func(t *tariff.Tariff) { t.Types[0][1] = tariff.Switch{At: 0, Rate: 3} }, api.ErrUnknown},
		{func(t *tariff.Tariff) { t.Prices = t.Prices[:1] }, api.ErrUnknown},
		{func(t *tariff.Tariff) { t.Types[0][0].At = 1 }, api.ErrOrder},
		{func(t *tariff.Tariff) { t.Types[1][0].At = 86399 }, api.ErrOrder},
		{func(t *tariff.Tariff) { t.Types[0][1].At = 0 }, api.ErrOrder},
		{func(t *tariff.Tariff) { t.Types[0][1].At = 1 }, api.OK},
		{func(t *tariff.Tariff) { t.Types[0][2].At = 21600 }, api.ErrOrder},
		{func(t *tariff.Tariff) { t.Types[0][2].At = 21601 }, api.OK},
		{func(t *tariff.Tariff) { t.Types[0][2].At = 0 }, api.ErrOrder},
		{func(t *tariff.Tariff) { t.Types[0][2].At, t.Types[1][0].At = 21600, -1 }, api.ErrOrder},
		{func(t *tariff.Tariff) { t.Types[0][1].At, t.Types[0][2].Rate = 0, 3 }, api.ErrOrder},
	}
}

func seasonCases() []tariffCase {
	return []tariffCase{
		{func(t *tariff.Tariff) { t.Seasons = nil }, api.ErrEmpty},
		{func(t *tariff.Tariff) { t.Seasons = repeated(tariff.Season{From: -1}, 9) }, api.ErrMany},
		{func(t *tariff.Tariff) { t.Seasons[0].From = -1 }, api.ErrRange},
		{func(t *tariff.Tariff) { t.Seasons[0].From = 3 }, api.ErrOrder},
		{func(t *tariff.Tariff) { t.Seasons = append(t.Seasons, tariff.Season{From: 364}) }, api.ErrRange},
		{func(t *tariff.Tariff) { t.Seasons = append(t.Seasons, tariff.Season{From: 363}) }, api.OK},
		{func(t *tariff.Tariff) { t.Seasons = append(t.Seasons, tariff.Season{}) }, api.ErrOrder},
		{func(t *tariff.Tariff) { t.Seasons = append(t.Seasons, tariff.Season{From: 9}, tariff.Season{From: 9}) }, api.ErrOrder},
		{func(t *tariff.Tariff) { t.Seasons = append(t.Seasons, tariff.Season{From: 9}, tariff.Season{From: 8}) }, api.ErrOrder},
		{func(t *tariff.Tariff) { t.Seasons = append(t.Seasons, tariff.Season{From: 9}, tariff.Season{From: 10}) }, api.OK},
		{func(t *tariff.Tariff) { t.Seasons[0].Week[0] = -1 }, api.ErrUnknown},
		{func(t *tariff.Tariff) { t.Seasons[0].Week[6] = 2 }, api.ErrUnknown},
		{func(t *tariff.Tariff) { t.Seasons[0].Week[3] = math.MaxInt }, api.ErrUnknown},
		{func(t *tariff.Tariff) { t.Types = t.Types[:1] }, api.ErrUnknown},
		{func(t *tariff.Tariff) { t.Seasons[0].From, t.Seasons[0].Week[6] = 3, 2 }, api.ErrUnknown},
		{func(t *tariff.Tariff) { t.Seasons[0].From, t.Seasons[0].Week[6] = -1, 2 }, api.ErrRange},
	}
}

func blockCases() []tariffCase {
	return []tariffCase{
		{func(t *tariff.Tariff) { t.Blocks = nil }, api.OK},
		{func(t *tariff.Tariff) { t.Blocks = repeated(tariff.Block{}, 5) }, api.ErrMany},
		{func(t *tariff.Tariff) {
			t.Blocks = []tariff.Block{{From: 1}, {From: 2, Add: -100000}, {From: 3, Add: 100000}, {From: 100000000}}
		}, api.OK},
		{func(t *tariff.Tariff) { t.Blocks[0].From = 0 }, api.ErrRange},
		{func(t *tariff.Tariff) { t.Blocks[0].From = 100000001 }, api.ErrRange},
		{func(t *tariff.Tariff) { t.Blocks[0].Add = 100001 }, api.ErrRange},
		{func(t *tariff.Tariff) { t.Blocks[0].Add = -100001 }, api.ErrRange},
		{func(t *tariff.Tariff) { t.Blocks = append(t.Blocks, t.Blocks[0]) }, api.ErrOrder},
		{func(t *tariff.Tariff) { t.Blocks = append(t.Blocks, tariff.Block{From: 9}) }, api.ErrOrder},
		{func(t *tariff.Tariff) { t.Blocks = append(t.Blocks, tariff.Block{From: 9, Add: 100001}) }, api.ErrRange},
		{func(t *tariff.Tariff) { t.Blocks = append(t.Blocks, t.Blocks[0], tariff.Block{}) }, api.ErrOrder},
	}
}

func priceCases() []tariffCase {
	return []tariffCase{
		{func(t *tariff.Tariff) {}, api.OK},
		{func(t *tariff.Tariff) { t.Prices = nil }, api.ErrEmpty},
		{func(t *tariff.Tariff) { t.Prices = repeated(-1, 9) }, api.ErrMany},
		{func(t *tariff.Tariff) { t.Prices = repeated(0, 8) }, api.OK},
		{func(t *tariff.Tariff) { t.Prices[2] = 100001 }, api.ErrRange},
		{func(t *tariff.Tariff) { t.Prices[2] = 100000 }, api.OK},
		{func(t *tariff.Tariff) { t.Prices[0] = -1 }, api.ErrRange},
		{func(t *tariff.Tariff) { t.Types = nil }, api.ErrEmpty},
		{func(t *tariff.Tariff) { t.Types = repeated([]tariff.Switch(nil), 9) }, api.ErrMany},
		{func(t *tariff.Tariff) { t.Types = repeated(switches(0, 0), 8) }, api.OK},
	}
}

func TestCheckTariff(t *testing.T) {
	for i, x := range slices.Concat(priceCases(), switchCases(), seasonCases(), blockCases()) {
		same(t, "CheckTariff", all(i, tariff.CheckTariff(changed(x.change))), all(i, x.e))
	}
	full := tariff.Tariff{Prices: repeated(0, 8), Types: repeated(switches(0, 7, 1, 7, 2, 7, 3, 7, 4, 7, 5, 7, 6, 7, 7, 7, 8, 7, 9, 7, 10, 7, 11, 7), 8)}
	for i := range 8 {
		full.Seasons = append(full.Seasons, tariff.Season{From: i, Week: [7]int{7, 7, 7, 7, 7, 7, 7}})
	}
	same(t, "CheckTariff of a full one", tariff.CheckTariff(full), api.OK)
	same(t, "CheckTariff of nothing", tariff.CheckTariff(tariff.Tariff{}), api.ErrEmpty)
}

// TestPartsOfATariffInOrder has errors in two parts: that of the part named first is returned.
func TestPartsOfATariffInOrder(t *testing.T) {
	prices := tariffCase{func(t *tariff.Tariff) { t.Prices[1] = -1 }, api.ErrRange}
	types := tariffCase{func(t *tariff.Tariff) { t.Types[1][0].At = 5 }, api.ErrOrder}
	seasons := tariffCase{func(t *tariff.Tariff) { t.Seasons[0].Week[2] = 7 }, api.ErrUnknown}
	blocks := tariffCase{func(t *tariff.Tariff) { t.Blocks = repeated(t.Blocks[0], 5) }, api.ErrMany}
	parts := []tariffCase{prices, types, seasons, blocks}
	for i, x := range parts {
		for _, y := range parts[i:] {
			same(t, "CheckTariff of two errors", tariff.CheckTariff(changed(y.change, x.change)), x.e)
		}
	}
}

// calendarCases have changes of the calendar C of the examples, and its errors after them.
func calendarCases() []struct {
	change func(c *tariff.Calendar)
	e      api.Errno
} {
	return []struct {
		change func(c *tariff.Calendar)
		e      api.Errno
	}{
		{func(c *tariff.Calendar) {}, api.OK},
		{func(c *tariff.Calendar) { c.Notice = -1 }, api.ErrRange},
		{func(c *tariff.Calendar) { c.Notice = 365; c.Versions = nil }, api.ErrRange},
		{func(c *tariff.Calendar) { c.Notice = 0 }, api.OK},
		{func(c *tariff.Calendar) { c.Notice = 11 }, api.ErrOld},
		{func(c *tariff.Calendar) { c.Notice = 15; c.Versions[0].Announced = -15 }, api.OK},
		{func(c *tariff.Calendar) { c.Notice = 16; c.Versions[0].Announced = -16 }, api.ErrOld},
		{func(c *tariff.Calendar) { c.Versions = nil }, api.ErrEmpty},
		{func(c *tariff.Calendar) { c.Versions = repeated(tariff.Version{From: -1}, 9) }, api.ErrMany},
		{func(c *tariff.Calendar) { c.Versions[0].From = -1 }, api.ErrRange},
		{func(c *tariff.Calendar) { c.Versions[1].From = 100001 }, api.ErrRange},
		{func(c *tariff.Calendar) { c.Versions[1].From = 100000 }, api.OK},
		{func(c *tariff.Calendar) { c.Versions[1].From, c.Versions[1].Announced = 100000, 99990 }, api.OK},
		{func(c *tariff.Calendar) { c.Versions[0].Announced = -365 }, api.ErrRange},
		{func(c *tariff.Calendar) { c.Versions[0].Announced = -364 }, api.OK},
		{func(c *tariff.Calendar) { c.Versions[1].Announced = 100001 }, api.ErrRange},
		{func(c *tariff.Calendar) { c.Versions[1].Announced = 100000 }, api.ErrOld},
		{func(c *tariff.Calendar) { c.Versions[1].From, c.Versions[1].Announced = 0, 100001 }, api.ErrRange},
		{func(c *tariff.Calendar) { c.Versions[1].From = 0 }, api.ErrOrder},
		{func(c *tariff.Calendar) { c.Versions[0].From = 20 }, api.ErrOrder},
		{func(c *tariff.Calendar) { c.Versions[0].From = 21 }, api.ErrOrder},
		{func(c *tariff.Calendar) { c.Versions[0].From = 19 }, api.OK},
		{func(c *tariff.Calendar) { c.Versions[1].Announced = -11 }, api.ErrOrder},
		{func(c *tariff.Calendar) { c.Versions[1].Announced = -10 }, api.OK},
		{func(c *tariff.Calendar) { c.Versions[1].From, c.Versions[1].Announced = 0, 50 }, api.ErrOrder},
		{func(c *tariff.Calendar) { c.Versions[1].Announced = 10 }, api.OK},
		{func(c *tariff.Calendar) { c.Versions[1].Announced = 11 }, api.ErrOld},
		{func(c *tariff.Calendar) { c.Versions[0].Announced = -9 }, api.ErrOld},
		{func(c *tariff.Calendar) { c.Versions[0].Announced, c.Versions[0].Tariff.Prices = -9, nil }, api.ErrOld},
		{func(c *tariff.Calendar) { c.Versions[1].Tariff.Prices = nil }, api.ErrEmpty},
		{func(c *tariff.Calendar) { c.Versions[0].Tariff.Prices, c.Versions[1].From = nil, -1 }, api.ErrEmpty},
		{func(c *tariff.Calendar) { c.Versions[1].From, c.Versions[1].Tariff.Prices = 0, nil }, api.ErrOrder},
	}
}

func TestCheckCalendar(t *testing.T) {
	for i, x := range calendarCases() {
		c := book()
		x.change(&c)
		same(t, "CheckCalendar", all(i, tariff.CheckCalendar(c)), all(i, x.e))
	}
	same(t, "CheckCalendar of nothing", tariff.CheckCalendar(tariff.Calendar{}), api.ErrEmpty)
	full := calendar(0)
	for day := range 8 {
		full.Versions = append(full.Versions, version(day, 0, young()))
	}
	same(t, "CheckCalendar of a full one", tariff.CheckCalendar(full), api.OK)
	for _, n := range far() {
		for _, c := range []tariff.Calendar{calendar(n, version(0, -10, old())), calendar(10, version(n, -10, old())), calendar(10, version(0, n, old()))} {
			same(t, "CheckCalendar of far numbers", tariff.CheckCalendar(c), api.ErrRange)
		}
	}
}

// TestWrongCalendars gives wrong calendars to all functions that take one.
func TestWrongCalendars(t *testing.T) {
	for i, x := range calendarCases() {
		if x.e == api.OK {
			continue
		}
		c := book()
		x.change(&c)
		check := func(what string, results ...any) {
			t.Helper()
			same(t, what+" of a wrong calendar", append(results, i), append(zeros(results[:len(results)-1]...), x.e, i))
		}
		n, e := tariff.InForce(c, -1)
		check("InForce", n, e)
		rate, e := tariff.RateAt(c, -1)
		check("RateAt", rate, e)
		l, e := tariff.Changes(c, -1, -1)
		check("Changes", l, e)
		d, e := tariff.Announced(c, -365, -1, tariff.Tariff{})
		check("Announced", d, e)
		d, e = tariff.Withdrawn(c, -365)
		check("Withdrawn", d, e)
		b, e := tariff.Billed(c, tariff.Profile{}, -1)
		check("Billed", b, e)
		lines, e := tariff.Lines(c, tariff.Profile{}, -1)
		check("Lines", lines, e)
		n, e = tariff.Corrected(c, tariff.Profile{}, tariff.Profile{}, -1)
		check("Corrected", n, e)
		n, e = tariff.Compared(c, tariff.Calendar{}, tariff.Profile{}, -1)
		check("Compared", n, e)
		n, e = tariff.Compared(book(), c, tariff.Profile{}, -1)
		check("Compared", n, e)
		mean, e := tariff.Mean(c, tariff.Profile{}, -1)
		check("Mean", mean, e)
		l, n, e = tariff.Cheapest(c, tariff.Load{})
		check("Cheapest", l, n, e)
		n, e = tariff.CheckRuns(c, tariff.Load{}, nil)
		check("CheckRuns", n, e)
		n, e = tariff.Bound(c, tariff.Load{}, -1)
		check("Bound", n, e)
		s, e := tariff.Print(c)
		check("Print", s, e)
	}
}

func TestInForce(t *testing.T) {
	later := calendar(0, version(3, 0, old()), version(4, 0, old()), version(100000, 0, old()))
	for _, x := range []struct {
		c    tariff.Calendar
		day  int
		want int
		e    api.Errno
	}{
		{book(), 0, 0, api.OK}, {book(), 19, 0, api.OK}, {book(), 20, 1, api.OK}, {book(), 21, 1, api.OK}, {book(), 100000, 1, api.OK},
		{book(), -1, 0, api.ErrRange}, {book(), 100001, 0, api.ErrRange}, {book(), math.MinInt, 0, api.ErrRange}, {book(), math.MaxInt, 0, api.ErrRange},
		{later, 0, 0, api.ErrNone}, {later, 2, 0, api.ErrNone}, {later, 3, 0, api.OK}, {later, 4, 1, api.OK}, {later, 99999, 1, api.OK}, {later, 100000, 2, api.OK}, {later, -1, 0, api.ErrRange},
	} {
		n, e := tariff.InForce(x.c, x.day)
		same(t, "InForce", all(x.day, n, e), all(x.day, x.want, x.e))
	}
}

// seasons returns a calendar with a winter over the end of the year: from its beginning, and from the place 300 on.
func seasons() tariff.Calendar {
	return alone(tariff.Tariff{
		Prices:  ints(1, 2, 3),
		Types:   [][]tariff.Switch{switches(0, 0), switches(0, 1, 100, 2)},
		Seasons: []tariff.Season{{Week: [7]int{0, 0, 0, 0, 0, 1, 1}}, {From: 90, Week: [7]int{1, 1, 1, 1, 1, 0, 0}}, {From: 300}},
	})
}

func TestRateAt(t *testing.T) {
	for _, x := range []struct {
		c    tariff.Calendar
		tick int
		want tariff.Rate
		e    api.Errno
	}{
		{book(), 0, tariff.Rate{Rate: 1, Price: 50}, api.OK}, {book(), 21599, tariff.Rate{Rate: 1, Price: 50}, api.OK}, {book(), 21600, tariff.Rate{Price: 100}, api.OK}, {book(), 79199, tariff.Rate{Price: 100}, api.OK}, {book(), 79200, tariff.Rate{Rate: 1, Price: 50}, api.OK},
		{book(), 86399, tariff.Rate{Rate: 1, Price: 50}, api.OK}, {book(), 86400, tariff.Rate{Rate: 1, Price: 50}, api.OK}, {book(), 108000, tariff.Rate{Price: 100}, api.OK},
		{book(), 432000, tariff.Rate{Rate: 1, Price: 50}, api.OK}, {book(), 462000, tariff.Rate{Rate: 1, Price: 50}, api.OK}, {book(), 604799, tariff.Rate{Rate: 1, Price: 50}, api.OK}, {book(), 634800, tariff.Rate{Price: 100}, api.OK},
		{book(), 1727999, tariff.Rate{Rate: 1, Price: 50}, api.OK}, {book(), 1728000, tariff.Rate{Version: 1, Price: 80}, api.OK}, {book(), 100000000, tariff.Rate{Version: 1, Price: 80}, api.OK},
		{book(), -1, tariff.Rate{}, api.ErrRange}, {book(), 100000001, tariff.Rate{}, api.ErrRange}, {book(), math.MinInt, tariff.Rate{}, api.ErrRange}, {book(), math.MaxInt, tariff.Rate{}, api.ErrRange},
		{from(1, young()), 86399, tariff.Rate{}, api.ErrNone}, {from(1, young()), 0, tariff.Rate{}, api.ErrNone}, {from(1, young()), 86400, tariff.Rate{Price: 80}, api.OK}, {from(1158, young()), 100000000, tariff.Rate{}, api.ErrNone}, {from(1157, young()), 100000000, tariff.Rate{Price: 80}, api.OK},
		{seasons(), 89*86400 + 99, tariff.Rate{Rate: 1, Price: 2}, api.OK}, {seasons(), 90*86400 + 99, tariff.Rate{Price: 1}, api.OK}, {seasons(), 91*86400 + 99, tariff.Rate{Rate: 1, Price: 2}, api.OK}, {seasons(), 91*86400 + 100, tariff.Rate{Rate: 2, Price: 3}, api.OK},
		{seasons(), 299*86400 + 100, tariff.Rate{Price: 1}, api.OK}, {seasons(), 298*86400 + 100, tariff.Rate{Rate: 2, Price: 3}, api.OK}, {seasons(), 301*86400 + 100, tariff.Rate{Price: 1}, api.OK}, {seasons(), 363*86400 + 100, tariff.Rate{Price: 1}, api.OK}, {seasons(), 364*86400 + 100, tariff.Rate{Price: 1}, api.OK}, {seasons(), 369*86400 + 100, tariff.Rate{Rate: 2, Price: 3}, api.OK},
	} {
		rate, e := tariff.RateAt(x.c, x.tick)
		same(t, "RateAt", all(x.tick, rate, e), all(x.tick, x.want, x.e))
	}
}

func TestRatesByDefinition(t *testing.T) {
	r := rand.New(rand.NewSource(1))
	for range 500 {
		c := randomCalendar(r)
		same(t, "CheckCalendar", tariff.CheckCalendar(c), api.OK)
		for range 40 {
			tick := pick(r, r.Intn(60*86400), r.Intn(100000001), r.Intn(60)*86400+r.Intn(48)*1800)
			rate, e := tariff.RateAt(c, tick)
			want, found := modelRate(c, tick)
			same(t, "RateAt", all(tick, rate, e == api.OK, e == api.ErrNone), all(tick, want, found, !found))
			version, f := tariff.InForce(c, tick/86400)
			same(t, "InForce", all(version, f), all(want.Version, e))
		}
	}
}

// crowded returns a calendar whose rate changes twelve times a day, at its last seconds, too.
func crowded() tariff.Calendar {
	x := flat(1)
	x.Prices = ints(1, 1)
	x.Types[0] = nil
	for i := range 11 {
		x.Types[0] = append(x.Types[0], tariff.Switch{At: 7 * i, Rate: i % 2})
	}
	x.Types[0] = append(x.Types[0], tariff.Switch{At: 86399, Rate: 1})
	return alone(x)
}

func TestChanges(t *testing.T) {
	equal := calendar(10, version(0, -10, flat(7)), version(3, -10, flat(7)))
	idle := alone(flat(7))
	idle.Versions[0].Tariff.Types[0] = switches(0, 0, 50, 0, 90, 0)
	twin := alone(flat(7))
	twin.Versions[0].Tariff.Prices = ints(7, 7)
	twin.Versions[0].Tariff.Types[0] = switches(0, 0, 50, 1, 90, 1)
	for _, x := range []struct {
		c        tariff.Calendar
		from, to int
		want     []int
	}{
		{book(), 0, 86400, ints(21600, 79200)}, {book(), 0, 21600, nil}, {book(), 0, 21601, ints(21600)}, {book(), 21599, 79200, ints(21600)}, {book(), 21600, 79201, ints(79200)}, {book(), 79200, 108000, nil}, {book(), 79200, 108001, ints(108000)},
		{book(), 1641600, 1728001, ints(1728000)}, {book(), 1641600, 1728000, nil}, {book(), 1728000, 2419200, nil}, {book(), 0, 1, nil}, {book(), 99999999, 100000000, nil},
		{from(1, young()), 0, 100000, ints(86400)}, {from(1, young()), 0, 86400, nil}, {from(1, young()), 0, 86399, nil}, {from(1, young()), 86400, 200000, nil}, {from(1, young()), 86399, 86401, ints(86400)}, {from(2000, young()), 0, 691200, nil},
		{alone(young()), 0, 691200, nil},              // there is no tick before the first one
		{equal, 0, 400000, ints(259200)},              // a new version is a change, even with the same price
		{idle, 0, 100000, nil},                        // a switch to the same rate is none
		{twin, 0, 86450, ints(50, 86400)},             // another rate is a change, even with the same price
		{crowded(), 86399, 86408, ints(86400, 86407)}, // at the end of a day
		{crowded(), 86398, 86401, ints(86399, 86400)}, // and at the beginning of the next one
		{crowded(), 99999999 - 400, 100000000, nil},   // the last tick is in the middle of a day
		{seasons(), 89 * 86400, 90*86400 + 1, ints(89*86400+100, 90*86400)},
	} {
		l, e := tariff.Changes(x.c, x.from, x.to)
		same(t, "Changes", all(x.from, x.to, l, e), all(x.from, x.to, x.want, api.OK))
	}
	l, e := tariff.Changes(crowded(), 86398, 86398+691200)
	same(t, "the most changes", all(len(l), l[0], l[len(l)-1], e), all(96, 86399, 691270, api.OK))
}

func TestChangesOfWrongSpans(t *testing.T) {
	for _, x := range []struct {
		from, to int
		e        api.Errno
	}{
		{-1, 5, api.ErrRange}, {100000001, 5, api.ErrRange}, {5, -1, api.ErrRange}, {5, 100000001, api.ErrRange}, {-1, -2, api.ErrRange}, {math.MinInt, math.MaxInt, api.ErrRange}, {math.MaxInt, math.MinInt, api.ErrRange}, {0, math.MaxInt, api.ErrRange}, {math.MinInt, 0, api.ErrRange},
		{5, 5, api.ErrSpan}, {6, 5, api.ErrSpan}, {100000000, 0, api.ErrSpan}, {100000000, 100000000, api.ErrSpan}, {0, 0, api.ErrSpan},
		{0, 691201, api.ErrLarge}, {7, 691208, api.ErrLarge}, {0, 100000000, api.ErrLarge}, {0, 691200, api.OK}, {7, 691207, api.OK}, {99308800, 100000000, api.OK},
	} {
		l, e := tariff.Changes(alone(young()), x.from, x.to)
		same(t, "Changes", all(x.from, x.to, l, e), all(x.from, x.to, ints(), x.e))
	}
}

// TestChangesByDefinition compares the rates of each two ticks.
func TestChangesByDefinition(t *testing.T) {
	r := rand.New(rand.NewSource(2))
	for range 40 {
		c := randomCalendar(r)
		from := r.Intn(30 * 86400)
		to := from + 1 + r.Intn(150000)
		var want []int
		before, earlier := modelRate(c, from)
		for tick := from + 1; tick < to; tick++ {
			rate, found := modelRate(c, tick)
			if found != earlier || rate != before {
				want = append(want, tick)
			}
			before, earlier = rate, found
		}
		l, e := tariff.Changes(c, from, to)
		same(t, "Changes", all(from, to, l, e), all(from, to, want, api.OK))
	}
}

func TestAnnounced(t *testing.T) {
	for _, x := range []struct {
		today, from int
	}{{5, 20}, {5, 15}, {-10, 1}, {-9, 1}, {99990, 100000}, {5, 100000}} {
		c, e := tariff.Announced(alone(old()), x.today, x.from, young())
		want := calendar(10, version(0, -10, old()), version(x.from, x.today, young()))
		same(t, "Announced", all(c, e), all(want, api.OK))
	}
}

func TestAnnouncedOfWrongArguments(t *testing.T) {
	full := calendar(0)
	for day := range 8 {
		full.Versions = append(full.Versions, version(day, 0, young()))
	}
	seven := calendar(0, full.Versions[:7]...)
	for _, x := range []struct {
		c           tariff.Calendar
		today, from int
		t           tariff.Tariff
		e           api.Errno
	}{
		{alone(old()), 5, 14, young(), api.ErrOld}, {alone(old()), 5, 4, young(), api.ErrOld}, {alone(old()), 100000, 100000, young(), api.ErrOld},
		{alone(old()), -11, 20, young(), api.ErrOrder}, {alone(old()), 5, 0, young(), api.ErrOrder}, {book(), 5, 20, young(), api.ErrOrder}, {book(), 4, 21, young(), api.ErrOrder}, {book(), 30, 19, young(), api.ErrOrder},
		{book(), 5, 21, young(), api.OK}, {book(), 11, 21, young(), api.OK}, {book(), 12, 21, young(), api.ErrOld},
		{alone(old()), -365, 0, tariff.Tariff{}, api.ErrRange}, {alone(old()), 100001, 20, tariff.Tariff{}, api.ErrRange}, {alone(old()), -364, 20, young(), api.ErrOrder},
		{alone(old()), 5, -1, tariff.Tariff{}, api.ErrRange}, {alone(old()), 5, 100001, tariff.Tariff{}, api.ErrRange}, {alone(old()), math.MinInt, 20, young(), api.ErrRange}, {alone(old()), 5, math.MaxInt, young(), api.ErrRange}, {alone(old()), math.MaxInt, math.MinInt, young(), api.ErrRange},
		{alone(old()), 5, 0, tariff.Tariff{}, api.ErrEmpty}, {full, 5, 0, tariff.Tariff{}, api.ErrEmpty}, {alone(old()), 5, 20, changed(func(t *tariff.Tariff) { t.Blocks[0].From = 0 }), api.ErrRange},
		{full, 5, 20, young(), api.ErrMany}, {full, 5, 0, young(), api.ErrMany}, {full, -1, 20, young(), api.ErrMany}, {full, 50, 20, young(), api.ErrMany}, {seven, 5, 20, young(), api.OK}, {seven, 5, 6, young(), api.ErrOrder}, {seven, 5, 7, young(), api.OK}, {seven, -1, 7, young(), api.ErrOrder}, {seven, 8, 7, young(), api.ErrOld},
	} {
		c, e := tariff.Announced(x.c, x.today, x.from, x.t)
		if x.e != api.OK {
			same(t, "Announced", all(x.today, x.from, c, e), all(x.today, x.from, tariff.Calendar{}, x.e))
			continue
		}
		same(t, "Announced", all(x.today, x.from, len(c.Versions), e), all(x.today, x.from, len(x.c.Versions)+1, x.e))
	}
}

func TestWithdrawn(t *testing.T) {
	three := calendar(0, version(0, 0, old()), version(5, 3, young()), version(6, 3, old()))
	for _, x := range []struct {
		c     tariff.Calendar
		today int
		want  tariff.Calendar
	}{{book(), -364, alone(old())}, {book(), 0, alone(old())}, {book(), 10, alone(old())}, {three, 0, calendar(0, three.Versions[:2]...)}, {three, 5, calendar(0, three.Versions[:2]...)}} {
		c, e := tariff.Withdrawn(x.c, x.today)
		same(t, "Withdrawn", all(x.today, c, e), all(x.today, x.want, api.OK))
	}
}

func TestWithdrawnOfWrongArguments(t *testing.T) {
	for _, x := range []struct {
		c     tariff.Calendar
		today int
		e     api.Errno
	}{
		{book(), 11, api.ErrOld}, {book(), 19, api.ErrOld}, {book(), 20, api.ErrOver}, {book(), 21, api.ErrOver}, {book(), 100000, api.ErrOver}, {calendar(0, book().Versions...), 20, api.ErrOver},
		{book(), -365, api.ErrRange}, {book(), 100001, api.ErrRange}, {book(), math.MinInt, api.ErrRange}, {book(), math.MaxInt, api.ErrRange},
		{alone(old()), 0, api.ErrEmpty}, {alone(old()), -11, api.ErrEmpty}, {alone(old()), 100000, api.ErrEmpty}, {from(50, old()), 20, api.ErrEmpty}, {alone(old()), 100001, api.ErrRange},
	} {
		c, e := tariff.Withdrawn(x.c, x.today)
		same(t, "Withdrawn", all(x.today, c, e), all(x.today, tariff.Calendar{}, x.e))
	}
}
