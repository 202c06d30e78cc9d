package tariff

import (
	"cmp"
	"maps"
	"slices"

	"kilovar/api"
	"kilovar/common"
)

// priced is an interval with its rate.
type priced struct {
	interval
	Rate
}

// money returns what an interval costs without blocks.
func (x priced) money() int {
	return x.energy * x.Price
}

// pricedBy returns the intervals of a profile with their rates, or ErrNone if there is no rate for one of them.
func pricedBy(c Calendar, p Profile) ([]priced, api.Errno) {
	var out []priced
	for x := range p.intervals() {
		rate, found := c.rate(x.tick)
		if !found {
			return nil, api.ErrNone
		}
		out = append(out, priced{interval: x, Rate: rate})
	}
	return out, api.OK
}

// added returns what the blocks add to the money of the units from a number of used ones on, before another number. From its first unit on, a block adds its own Add instead of that of the block before it.
func (t Tariff) added(from, to int) int {
	sum, before := 0, 0
	for _, b := range t.Blocks {
		sum += (b.Add - before) * max(0, to-max(from, b.From))
		before = b.Add
	}
	return sum
}

// order compares two lines by their places in a bill.
func (x Line) order(y Line) int {
	return cmp.Or(cmp.Compare(x.Version, y.Version), cmp.Compare(x.Rate, y.Rate))
}

// lines returns the lines of a bill, whatever its money is, or ErrNone if there is no rate for an interval.
func lines(c Calendar, p Profile, used int) ([]Line, api.Errno) {
	l, e := pricedBy(c, p)
	if e != api.OK {
		return nil, e
	}
	found := map[[2]int]Line{}
	for _, x := range l {
		key := [2]int{x.Version, x.Rate.Rate}
		line := found[key]
		found[key] = Line{
			Version: x.Version,
			Rate:    x.Rate.Rate,
			Energy:  line.Energy + x.energy,
			Money:   line.Money + x.money() + c.Versions[x.Version].Tariff.added(used, used+x.energy),
		}
		used += x.energy
	}
	return slices.SortedFunc(maps.Values(found), Line.order), api.OK
}

// billOf returns the bill with some lines, after a number of used units.
func billOf(lines []Line, used int) Bill {
	b := Bill{Used: used}
	for _, x := range lines {
		b.Energy += x.Energy
		b.Money += x.Money
		b.Used += x.Energy
	}
	return b
}

// checkMoney returns ErrLarge if the money of all lines of a bill is too much, or OK.
func checkMoney(lines []Line) api.Errno {
	money := billOf(lines, 0).Money
	return common.FailIf(money < -api.MaxMoney || money > api.MaxMoney, api.ErrLarge)
}

// Billed returns the bill of a profile.
func Billed(c Calendar, p Profile, used int) (Bill, api.Errno) {
	l, e := Lines(c, p, used)
	if e != api.OK {
		return Bill{}, e
	}
	return billOf(l, used), api.OK
}

// Lines returns the lines of the bill of a profile.
func Lines(c Calendar, p Profile, used int) ([]Line, api.Errno) {
	if e := common.First(CheckCalendar(c), CheckProfile(p), checkUsed(used), checkComplete(p)); e != api.OK {
		return nil, e
	}
	l, e := lines(c, p, used)
	if e := common.First(e, checkMoney(l)); e != api.OK {
		return nil, e
	}
	return l, api.OK
}

// shape returns what two profiles must have in common for a correction.
func (p Profile) shape() [3]int {
	return [3]int{p.Start, p.Step, len(p.Energies)}
}

// Corrected returns the money by which the bill of an estimated profile is corrected.
func Corrected(c Calendar, estimated, p Profile, used int) (int, api.Errno) {
	e := common.First(
		CheckCalendar(c),
		CheckProfile(estimated),
		CheckProfile(p),
		checkUsed(used),
		common.FailIf(estimated.shape() != p.shape(), api.ErrShape),
	)
	if e != api.OK {
		return 0, e
	}
	before, e := Billed(c, estimated, used)
	after, f := Billed(c, p, used)
	if e := common.First(e, f); e != api.OK {
		return 0, e
	}
	return after.Money - before.Money, api.OK
}

// Compared returns the money by which a calendar costs more than another one.
func Compared(c, d Calendar, p Profile, used int) (int, api.Errno) {
	e := common.First(CheckCalendar(c), CheckCalendar(d), CheckProfile(p), checkUsed(used), checkComplete(p))
	if e != api.OK {
		return 0, e
	}
	first, e := lines(c, p, used)
	second, f := lines(d, p, used)
	if e := common.First(e, f, checkMoney(first), checkMoney(second)); e != api.OK {
		return 0, e
	}
	return billOf(second, used).Money - billOf(first, used).Money, api.OK
}

// Mean returns the mean price of a profile.
func Mean(c Calendar, p Profile, used int) (api.Ratio, api.Errno) {
	b, e := Billed(c, p, used)
	if e := common.First(e, common.FailIf(b.Energy == 0, api.ErrZero)); e != api.OK {
		return api.Ratio{}, e
	}
	return ratio(b.Money, b.Energy), api.OK
}

// ratio returns a quotient in lowest terms; the denominator is above 0.
func ratio(num, den int) api.Ratio {
	divisor, rest := den, max(num, -num)
	for rest != 0 {
		divisor, rest = rest, divisor%rest
	}
	return api.Ratio{Num: num / divisor, Den: den / divisor}
}
