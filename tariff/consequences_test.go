package tariff_test

import (
	"math/rand"
	"slices"
	"testing"

	"kilovar/api"
	"kilovar/tariff"
)

// P7.6

func TestBetweenChangesTheRateIsOne(t *testing.T) {
	r := rand.New(rand.NewSource(6))
	for range 200 {
		c := randomCalendar(r)
		from := (lateDay(r, c) + 1) * 86400
		to := from + 1 + r.Intn(691200)
		l, e := tariff.Changes(c, from, to)
		same(t, "Changes: error", e, api.OK)
		begin := from
		for _, end := range append(l, to) {
			want := value(tariff.RateAt(c, begin))
			for _, tick := range []int{end - 1, begin + r.Intn(end-begin), begin + r.Intn(end-begin)} {
				same(t, "the rate between changes", value(tariff.RateAt(c, tick)), want)
			}
			if end < to && value(tariff.RateAt(c, end)) == want {
				t.Errorf("the rate does not change at %d", end)
			}
			begin = end
		}
	}
}

// next returns a day and a first day of a further version of a calendar.
func next(r *rand.Rand, c tariff.Calendar) (int, int) {
	last := c.Versions[len(c.Versions)-1]
	today := last.Announced + r.Intn(30)
	return today, max(last.From+1, today+c.Notice) + pick(r, 0, 1, r.Intn(50))
}

func TestAnnouncedVersions(t *testing.T) {
	r := rand.New(rand.NewSource(7))
	for range 300 {
		c, x := randomCalendar(r), randomTariff(r)
		today, day := next(r, c)
		d, e := tariff.Announced(c, today, day, x)
		same(t, "Announced: error", all(e, tariff.CheckCalendar(d)), all(api.OK, api.OK))
		for range 30 {
			tick := r.Intn(day * 86400)
			before, e := tariff.RateAt(c, tick)
			after, f := tariff.RateAt(d, tick)
			same(t, "a rate before the first day", all(after, f), all(before, e))
		}
		first := value(tariff.RateAt(d, day*86400))
		same(t, "the version of the first day", first.Version, len(c.Versions))
		alone := value(tariff.RateAt(calendar(0, version(0, 0, x)), day*86400))
		same(t, "the rate of the first day", all(first.Rate, first.Price), all(alone.Rate, alone.Price))
		back, e := tariff.Withdrawn(d, today)
		if day == today { // without a notice, a version may begin on the day on which it is announced: then it is in force
			same(t, "Withdrawn on the first day", all(back, e), all(tariff.Calendar{}, api.ErrOver))
			continue
		}
		same(t, "Withdrawn", all(back, e), all(c, api.OK))
	}
}

func TestBillsOfParts(t *testing.T) {
	r := rand.New(rand.NewSource(8))
	for range 300 {
		c := randomCalendar(r)
		p, used := randomProfile(r, lateDay(r, c), 96), r.Intn(70)
		whole := value(tariff.Billed(c, p, used))
		sum, rest := tariff.Bill{Used: used}, p
		for len(rest.Energies) > 0 {
			a, b, e := tariff.Split(rest, 1+r.Intn(len(rest.Energies)))
			same(t, "Split: error", e, api.OK)
			joined, e := tariff.Joined(a, b)
			same(t, "Joined", all(joined, e), all(rest, api.OK))
			part, e := tariff.Billed(c, a, sum.Used)
			same(t, "Billed of a part: error", e, api.OK)
			sum = tariff.Bill{Energy: sum.Energy + part.Energy, Money: sum.Money + part.Money, Used: part.Used}
			rest = b
		}
		same(t, "the sum of parts", sum, whole)
	}
}

func TestLinesAddUp(t *testing.T) {
	r := rand.New(rand.NewSource(9))
	for range 300 {
		c := randomCalendar(r)
		p, used := randomProfile(r, lateDay(r, c), 96), r.Intn(70)
		l, e := tariff.Lines(c, p, used)
		same(t, "Lines: error", e, api.OK)
		sum := tariff.Bill{Used: used}
		for i, x := range l {
			sum = tariff.Bill{Energy: sum.Energy + x.Energy, Money: sum.Money + x.Money, Used: sum.Used + x.Energy}
			if i > 0 && (x.Version < l[i-1].Version || x.Version == l[i-1].Version && x.Rate <= l[i-1].Rate) {
				t.Errorf("the lines are not ordered: %v", l)
			}
		}
		same(t, "the sum of lines", sum, value(tariff.Billed(c, p, used)))
	}
}

func TestEstimatesAreCorrected(t *testing.T) {
	r := rand.New(rand.NewSource(10))
	for range 300 {
		c := randomCalendar(r)
		p, used := randomProfile(r, lateDay(r, c), 96), r.Intn(70)
		gaps := profile(p.Start, p.Step, slices.Clone(p.Energies)...)
		total := 0
		for i, energy := range p.Energies {
			total += energy
			if r.Intn(3) == 0 {
				gaps.Energies[i] = tariff.Missing
			}
		}
		estimated, e := tariff.Estimated(gaps, total)
		same(t, "Estimated: error", e, api.OK)
		sum, missing, e := tariff.Known(estimated)
		same(t, "Known of an estimate", all(sum, missing, e), all(total, 0, api.OK))
		for i, energy := range gaps.Energies {
			if energy != tariff.Missing {
				same(t, "a known energy", estimated.Energies[i], energy)
			}
		}
		correction, e := tariff.Corrected(c, estimated, p, used)
		same(t, "Corrected: error", e, api.OK)
		same(t, "the estimate, corrected", value(tariff.Billed(c, estimated, used)).Money+correction, value(tariff.Billed(c, p, used)).Money)
	}
}

func TestAYearLater(t *testing.T) {
	r := rand.New(rand.NewSource(11))
	for range 300 {
		c := calendar(0, version(0, 0, randomTariff(r)))
		p, used := randomProfile(r, r.Intn(700), 96), r.Intn(70)
		later := profile(p.Start+364*86400, p.Step, p.Energies...)
		same(t, "Lines a year later", value(tariff.Lines(c, later, used)), value(tariff.Lines(c, p, used)))
		for i := range p.Energies {
			tick := p.Start + i*p.Step
			same(t, "RateAt a year later", value(tariff.RateAt(c, tick+364*86400)), value(tariff.RateAt(c, tick)))
		}
	}
}

// randomRuns returns as many runs as a load needs, with any number of starts.
func randomRuns(r *rand.Rand, l tariff.Load) []int {
	n := (l.To - l.From) / l.Step
	if r.Intn(2) == 0 {
		return ascending(r, l.Runs, n)
	}
	from := r.Intn(n - l.Runs + 1)
	var out []int
	for i := range l.Runs {
		out = append(out, from+i)
	}
	return out
}

func TestNothingIsCheaper(t *testing.T) {
	r := rand.New(rand.NewSource(12))
	for range 200 {
		c := randomCalendar(r)
		l := randomLoad(r, lateDay(r, c), 24)
		runs, least, e := tariff.Cheapest(c, l)
		same(t, "Cheapest: error", e, api.OK)
		cost, e := tariff.CheckRuns(c, l, runs)
		same(t, "CheckRuns of the cheapest ones", all(cost, e), all(least, api.OK))
		for range 30 {
			cost, e := tariff.CheckRuns(c, l, randomRuns(r, l))
			if e != api.OK && e != api.ErrLimit || e == api.OK && cost < least {
				t.Errorf("%v: %v costs %d, other runs %d (%d)", l, runs, least, cost, e)
			}
			price := pick(r, 0, 50, 100, r.Intn(300), 100000)
			if bound, e := tariff.Bound(c, l, price); e != api.OK || bound > least {
				t.Errorf("%v: %v costs %d, the bound of %d is %d (%d)", l, runs, least, price, bound, e)
			}
		}
	}
}

// TestABoundIsReached has loads with as many starts as they like: the price of the dearest run proves that no runs are cheaper.
func TestABoundIsReached(t *testing.T) {
	r := rand.New(rand.NewSource(13))
	for range 200 {
		c := randomCalendar(r)
		l := randomLoad(r, lateDay(r, c), 24)
		l.Starts = 24
		runs, least, _ := tariff.Cheapest(c, l)
		price := 0
		for _, slot := range runs {
			price = max(price, value(tariff.RateAt(c, l.From+slot*l.Step)).Price)
		}
		same(t, "the bound of the dearest run", value(tariff.Bound(c, l, price)), least)
	}
}

func TestCalendarsComeBack(t *testing.T) {
	r := rand.New(rand.NewSource(14))
	for range 500 {
		c := randomCalendar(r)
		s, e := tariff.Print(c)
		same(t, "Print: error", e, api.OK)
		if len(s) > api.MaxText {
			continue
		}
		got, i, e := tariff.Parse(s)
		same(t, "Parse", all(got, i, e), all(c, 0, api.OK))
	}
}
