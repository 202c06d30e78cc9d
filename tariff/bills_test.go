package tariff_test

import (
	"math"
	"math/rand"
	"slices"
	"testing"

	"kilovar/api"
	"kilovar/tariff"
)

// P7.3

// turn is the profile from the last hours of the day 19 to the first ones of the day 20, on which U begins.
func turn(energies ...int) tariff.Profile { return profile(1724400, 3600, energies...) }

// dear returns a calendar whose units cost 200000 if at least one was used before.
func dear() tariff.Calendar { return alone(flat(100000, tariff.Block{From: 1, Add: 100000})) }

// nearly returns a calendar whose units cost 199999 if at least one was used before, and 200000 if more were: 5000001 units behind the first one cost 1000000000001 with the number 200000, and 1000000000000 with one more.
func nearly(units int) tariff.Calendar {
	return alone(flat(100000, tariff.Block{From: 1, Add: 99999}, tariff.Block{From: units, Add: 100000}))
}

// most returns a profile with a number of units, as many in each interval as there may be.
func most(units int) tariff.Profile {
	p := profile(0, 900)
	for ; units > 0; units -= 100000 {
		p.Energies = append(p.Energies, min(units, 100000))
	}
	return p
}

func TestBilled(t *testing.T) {
	cheaper := alone(flat(30, tariff.Block{From: 2, Add: -40}, tariff.Block{From: 4, Add: 0}, tariff.Block{From: 6, Add: 5}))
	for _, x := range []struct {
		c    tariff.Calendar
		p    tariff.Profile
		used int
		want tariff.Bill
	}{
		{book(), series(4, 5, 3), 0, tariff.Bill{Energy: 12, Money: 1040, Used: 12}}, {book(), series(4, 5, 3), 8, tariff.Bill{Energy: 12, Money: 1200, Used: 20}}, {book(), series(4, 6, 3), 0, tariff.Bill{Energy: 13, Money: 1160, Used: 13}},
		{book(), series(0, 0, 0), 3, tariff.Bill{Used: 3}}, {book(), series(), 7, tariff.Bill{Used: 7}}, {book(), series(1, 0, 0), 9, tariff.Bill{Energy: 1, Money: 50, Used: 10}}, {book(), series(1, 0, 0), 10, tariff.Bill{Energy: 1, Money: 70, Used: 11}}, {book(), series(2), 9, tariff.Bill{Energy: 2, Money: 120, Used: 11}},
		{book(), series(1), 100000000, tariff.Bill{Energy: 1, Money: 70, Used: 100000001}}, {book(), series(100000), 100000000, tariff.Bill{Energy: 100000, Money: 7000000, Used: 100100000}},
		{book(), turn(2, 3), 9, tariff.Bill{Energy: 5, Money: 50 + 70 + 240, Used: 14}},                                                                                      // blocks are those of the version that bills
		{calendar(0, version(0, 0, young()), version(20, 0, flat(10, tariff.Block{From: 3, Add: 1}))), turn(2, 3), 0, tariff.Bill{Energy: 5, Money: 160 + 10 + 22, Used: 5}}, // the units of all versions are counted
		{cheaper, series(8), 0, tariff.Bill{Energy: 8, Money: 60 - 20 + 60 + 70, Used: 8}}, {cheaper, series(1, 1, 1, 1, 1, 1, 1, 1), 0, tariff.Bill{Energy: 8, Money: 60 - 20 + 60 + 70, Used: 8}}, {cheaper, series(2), 2, tariff.Bill{Energy: 2, Money: -20, Used: 4}}, {cheaper, series(2), 3, tariff.Bill{Energy: 2, Money: 20, Used: 5}}, {cheaper, series(1), 6, tariff.Bill{Energy: 1, Money: 35, Used: 7}},
		{alone(flat(0)), series(4, 5, 3), 0, tariff.Bill{Energy: 12, Used: 12}}, {alone(flat(1, tariff.Block{From: 100000000, Add: 1})), series(2), 99999999, tariff.Bill{Energy: 2, Money: 3, Used: 100000001}},
		{nearly(200001), most(5000001), 1, tariff.Bill{Energy: 5000001, Money: 1000000000000, Used: 5000002}}, {dear(), most(5000000), 1, tariff.Bill{Energy: 5000000, Money: 1000000000000, Used: 5000001}}, {alone(flat(0, tariff.Block{From: 1, Add: -100000})), most(9600000), 1, tariff.Bill{Energy: 9600000, Money: -960000000000, Used: 9600001}},
		{from(1, young()), series(), 7, tariff.Bill{Used: 7}}, {from(1, young()), profile(86400, 900, 2), 0, tariff.Bill{Energy: 2, Money: 160, Used: 2}},
	} {
		b, e := tariff.Billed(x.c, x.p, x.used)
		same(t, "Billed", all(x.p, x.used, b, e), all(x.p, x.used, x.want, api.OK))
	}
}

func TestLines(t *testing.T) {
	line := func(version, rate, energy, money int) tariff.Line {
		return tariff.Line{Version: version, Rate: rate, Energy: energy, Money: money}
	}
	for _, x := range []struct {
		c    tariff.Calendar
		p    tariff.Profile
		used int
		want []tariff.Line
	}{
		{book(), series(4, 5, 3), 0, []tariff.Line{line(0, 0, 8, 840), line(0, 1, 4, 200)}}, {book(), series(4), 8, []tariff.Line{line(0, 1, 4, 240)}}, {book(), series(4, 0), 8, []tariff.Line{line(0, 0, 0, 0), line(0, 1, 4, 240)}}, {book(), series(0, 0), 8, []tariff.Line{line(0, 0, 0, 0), line(0, 1, 0, 0)}}, {book(), series(), 8, nil},
		{book(), turn(2, 3), 9, []tariff.Line{line(0, 1, 2, 120), line(1, 0, 3, 240)}}, {book(), turn(0, 3), 9, []tariff.Line{line(0, 1, 0, 0), line(1, 0, 3, 240)}}, {book(), profile(1728000, 900, 1, 2), 0, []tariff.Line{line(1, 0, 3, 240)}},
		{calendar(10, version(0, -10, young()), version(20, 5, old())), turn(2, 3, 0, 0, 0, 0, 0, 7), 0, []tariff.Line{line(0, 0, 2, 160), line(1, 1, 10, 500+40)}},
		{alone(changed(func(t *tariff.Tariff) { t.Prices[1] = 100 })), series(4, 5), 0, []tariff.Line{line(0, 0, 5, 500), line(0, 1, 4, 400)}}, // rates with the same price are two
	} {
		l, e := tariff.Lines(x.c, x.p, x.used)
		same(t, "Lines", all(x.p, x.used, l, e), all(x.p, x.used, x.want, api.OK))
	}
}

// modelLines bills a profile unit by unit.
func modelLines(c tariff.Calendar, p tariff.Profile, used int) []tariff.Line {
	var out []tariff.Line
	for version := range c.Versions {
		for rate := range 8 {
			line, billed, n := tariff.Line{Version: version, Rate: rate}, false, used
			for i, energy := range p.Energies {
				x, _ := modelRate(c, p.Start+i*p.Step)
				here := x.Version == version && x.Rate == rate
				billed = billed || here
				for range energy {
					add := 0
					for _, b := range c.Versions[x.Version].Tariff.Blocks {
						if b.From <= n {
							add = b.Add
						}
					}
					if here {
						line.Energy++
						line.Money += x.Price + add
					}
					n++
				}
			}
			if billed {
				out = append(out, line)
			}
		}
	}
	return out
}

func TestBillsUnitByUnit(t *testing.T) {
	r := rand.New(rand.NewSource(4))
	for range 500 {
		c := randomCalendar(r)
		p, used := randomProfile(r, lateDay(r, c), 96), pick(r, 0, r.Intn(70), 100000000)
		want := modelLines(c, p, used)
		l, e := tariff.Lines(c, p, used)
		same(t, "Lines", all(l, e), all(want, api.OK))
		bill := tariff.Bill{Used: used}
		for _, x := range want {
			bill.Energy, bill.Money, bill.Used = bill.Energy+x.Energy, bill.Money+x.Money, bill.Used+x.Energy
		}
		b, e := tariff.Billed(c, p, used)
		same(t, "Billed", all(b, e), all(bill, api.OK))
		mean, e := tariff.Mean(c, p, used)
		if bill.Energy == 0 {
			same(t, "Mean of no energy", all(mean, e), all(api.Ratio{}, api.ErrZero))
			continue
		}
		same(t, "Mean", all(mean.Num*bill.Energy == bill.Money*mean.Den, e), all(true, api.OK))
		for divisor := 2; divisor <= mean.Den; divisor++ {
			if mean.Num%divisor == 0 && mean.Den%divisor == 0 {
				t.Fatalf("%v is not in lowest terms", mean)
			}
		}
	}
}

// billErrors are arguments of bills that have errors.
func billErrors() []struct {
	c    tariff.Calendar
	p    tariff.Profile
	used int
	e    api.Errno
} {
	return []struct {
		c    tariff.Calendar
		p    tariff.Profile
		used int
		e    api.Errno
	}{
		{book(), series(4), -1, api.ErrRange}, {book(), series(4), 100000001, api.ErrRange}, {book(), series(4), math.MinInt, api.ErrRange}, {book(), series(4), math.MaxInt, api.ErrRange}, {from(9, young()), series(4, -1), -1, api.ErrRange}, {book(), series(), -1, api.ErrRange},
		{book(), series(4, -1), 0, api.ErrOpen}, {book(), series(-1, 4), 0, api.ErrOpen}, {from(9, young()), series(4, -1), 0, api.ErrOpen}, {dear(), profile(0, 900, append(repeated(100000, 95), -1)...), 1, api.ErrOpen},
		{from(1, young()), profile(82800, 3600, 0, 1), 0, api.ErrNone}, {from(1, young()), profile(86400-900, 900, 0), 0, api.ErrNone}, {from(100000, young()), series(4), 0, api.ErrNone}, {from(1, dear().Versions[0].Tariff), profile(86400-900, 900, repeated(100000, 96)...), 1, api.ErrNone},
		{nearly(200000), most(5000001), 1, api.ErrLarge}, {dear(), most(5000001), 1, api.ErrLarge}, {dear(), most(9600000), 1, api.ErrLarge}, {dear(), most(5000001), 100000000, api.ErrLarge},
	}
}

func TestBillsOfWrongArguments(t *testing.T) {
	for i, x := range billErrors() {
		check := func(what string, results ...any) {
			t.Helper()
			same(t, what+" of wrong arguments", append(results, i), append(zeros(results[:len(results)-1]...), x.e, i))
		}
		b, e := tariff.Billed(x.c, x.p, x.used)
		check("Billed", b, e)
		l, e := tariff.Lines(x.c, x.p, x.used)
		check("Lines", l, e)
		mean, e := tariff.Mean(x.c, x.p, x.used)
		check("Mean", mean, e)
		n, e := tariff.Corrected(x.c, x.p, x.p, x.used)
		check("Corrected", n, e)
		n, e = tariff.Compared(x.c, x.c, x.p, x.used)
		check("Compared", n, e)
		cheap := alone(flat(0))
		n, e = tariff.Compared(cheap, x.c, x.p, x.used)
		check("Compared with a cheap one before it", n, e)
		n, e = tariff.Compared(x.c, cheap, x.p, x.used)
		check("Compared with a cheap one behind it", n, e)
	}
}

func TestCorrected(t *testing.T) {
	for _, x := range []struct {
		c            tariff.Calendar
		estimated, p tariff.Profile
		used, want   int
	}{
		{book(), series(4, 6, 3), series(4, 5, 3), 0, -120}, {book(), series(4, 5, 3), series(4, 6, 3), 0, 120}, {book(), series(4, 5, 3), series(4, 5, 3), 8, 0}, {book(), series(5, 4), series(4, 5), 0, 50}, {book(), series(), series(), 0, 0}, {from(1, young()), series(), series(), 0, 0},
		{book(), series(9), series(10), 0, 50}, {book(), series(9), series(10), 1, 70}, {book(), series(0), series(1), 10, 70},
		{alone(flat(100000, tariff.Block{From: 1, Add: -100000})), series(0), series(1), 0, 100000}, {dear(), most(5000000), profile(0, 900, repeated(0, 50)...), 1, -1000000000000},
	} {
		n, e := tariff.Corrected(x.c, x.estimated, x.p, x.used)
		same(t, "Corrected", all(x.estimated, x.p, n, e), all(x.estimated, x.p, x.want, api.OK))
	}
}

func TestCorrectedOfWrongArguments(t *testing.T) {
	large, small := most(5000001), profile(0, 900, repeated(0, 51)...)
	open := profile(0, 900, repeated(-1, 51)...)
	for i, x := range []struct {
		c            tariff.Calendar
		estimated, p tariff.Profile
		used         int
		e            api.Errno
	}{
		{book(), series(4, 6), series(4, 5, 3), 0, api.ErrShape}, {book(), series(4, 5), profile(21600, 3600, 4, 5), 0, api.ErrShape}, {book(), series(4, 5), profile(18000, 1800, 4, 5), 0, api.ErrShape}, {book(), series(), profile(18000, 1800), 0, api.ErrShape}, {book(), series(-1), series(-1, -1), 0, api.ErrShape}, {from(9, young()), series(4), series(), 0, api.ErrShape}, {book(), series(4), series(), -1, api.ErrRange}, {book(), series(4), series(), 100000001, api.ErrRange},
		{book(), series(-1), series(4), 0, api.ErrOpen}, {book(), series(4), series(-1), 0, api.ErrOpen}, {from(9, young()), series(-1), series(4), 0, api.ErrOpen}, {from(9, young()), series(4), series(4), 0, api.ErrNone},
		{from(9, young()), series(4), series(-1), 0, api.ErrNone}, // the error of the first bill comes before all of the other one
		{dear(), large, open, 1, api.ErrLarge}, {dear(), open, large, 1, api.ErrOpen}, {dear(), large, small, 1, api.ErrLarge}, {dear(), small, large, 1, api.ErrLarge},
	} {
		n, e := tariff.Corrected(x.c, x.estimated, x.p, x.used)
		same(t, "Corrected", all(i, n, e), all(i, 0, x.e))
	}
}

func TestCompared(t *testing.T) {
	for _, x := range []struct {
		c, d       tariff.Calendar
		p          tariff.Profile
		used, want int
	}{
		{book(), alone(young()), series(4, 5, 3), 0, -80}, {alone(young()), book(), series(4, 5, 3), 0, 80}, {book(), alone(young()), series(4, 5, 3), 8, -240}, {book(), book(), series(4, 5, 3), 0, 0}, {book(), alone(old()), turn(2, 3), 9, 3*70 - 240}, {from(9, young()), from(9, old()), series(), 0, 0},
		{dear(), alone(flat(0, tariff.Block{From: 1, Add: -100000})), most(5000000), 1, -1500000000000},
	} {
		n, e := tariff.Compared(x.c, x.d, x.p, x.used)
		same(t, "Compared", all(x.p, n, e), all(x.p, x.want, api.OK))
	}
}

// TestComparedOfTwoErrors has calendars with errors of two kinds: that there is no version in force comes first, also if it is the second one.
func TestComparedOfTwoErrors(t *testing.T) {
	late := from(2, young())
	for i, x := range []struct {
		c, d tariff.Calendar
		p    tariff.Profile
		used int
		e    api.Errno
	}{
		{dear(), late, most(5000001), 1, api.ErrNone}, {late, dear(), most(5000001), 1, api.ErrNone}, {late, late, series(4), 0, api.ErrNone}, {late, dear(), series(-1), 1, api.ErrOpen}, {dear(), late, series(-1), 1, api.ErrOpen},
		{dear(), alone(young()), most(5000001), 1, api.ErrLarge}, {alone(young()), dear(), most(5000001), 1, api.ErrLarge}, {late, tariff.Calendar{}, series(-1), -1, api.ErrEmpty}, {late, dear(), series(-1), -1, api.ErrRange},
		{tariff.Calendar{}, calendar(-1), tariff.Profile{}, -1, api.ErrEmpty}, {book(), tariff.Calendar{}, tariff.Profile{}, -1, api.ErrEmpty},
	} {
		n, e := tariff.Compared(x.c, x.d, x.p, x.used)
		same(t, "Compared", all(i, n, e), all(i, 0, x.e))
	}
}

func TestMean(t *testing.T) {
	for _, x := range []struct {
		c    tariff.Calendar
		p    tariff.Profile
		used int
		want api.Ratio
	}{
		{book(), series(4, 5, 3), 0, api.Ratio{Num: 260, Den: 3}}, {book(), series(4, 5, 3), 8, api.Ratio{Num: 100, Den: 1}}, {book(), series(1), 0, api.Ratio{Num: 50, Den: 1}}, {alone(flat(0)), series(7), 0, api.Ratio{Num: 0, Den: 1}}, {alone(flat(0, tariff.Block{From: 1, Add: -2})), series(4), 0, api.Ratio{Num: -3, Den: 2}}, {alone(flat(2, tariff.Block{From: 3, Add: -2})), series(4), 3, api.Ratio{Num: 0, Den: 1}},
		{dear(), most(4999999), 0, api.Ratio{Num: 999999700000, Den: 4999999}},
	} {
		mean, e := tariff.Mean(x.c, x.p, x.used)
		same(t, "Mean", all(x.p, mean, e), all(x.p, x.want, api.OK))
	}
	for _, p := range []tariff.Profile{series(), series(0), series(0, 0, 0)} {
		mean, e := tariff.Mean(book(), p, 5)
		same(t, "Mean of no energy", all(p, mean, e), all(p, api.Ratio{}, api.ErrZero))
	}
	for _, p := range []tariff.Profile{series(0), series(0, 0)} {
		mean, e := tariff.Mean(from(9, young()), p, 5)
		same(t, "Mean of no energy, and no version", all(p, mean, e), all(p, api.Ratio{}, api.ErrNone))
	}
	mean, e := tariff.Mean(book(), series(slices.Repeat(ints(0, -1), 3)...), 5)
	same(t, "Mean of no known energy", all(mean, e), all(api.Ratio{}, api.ErrOpen))
}
