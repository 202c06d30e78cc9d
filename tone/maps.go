package tone

import (
	"cmp"
	"slices"

	"kilovar/api"
	"kilovar/common"
)

// checkMap returns the error of a map, or OK.
func checkMap(bits []int) api.Errno {
	return common.Some(bits, MaxCarriers, common.In(0, MaxBits))
}

// CheckMap returns OK for a map that its tones carry, with the power that it takes.
func CheckMap(t Tones, part int, bits []int) (int, api.Errno) {
	e := common.First(checkPartOf(t, part), common.FailIf(len(bits) != len(t.Signal), api.ErrShape), common.Each(bits, common.In(0, MaxBits)))
	if e != api.OK {
		return 0, e
	}
	sum := 0
	for carrier, powers := range allPowers(t, part) {
		n := bits[carrier]
		if n >= len(powers) {
			return 0, api.ErrLimit
		}
		sum += powers[n]
	}
	return sum, api.OK
}

// toneMap is the bits of the first carriers, or of all of them.
type toneMap struct {
	bits []int
}

// powered is a map with its power.
type powered struct {
	toneMap
	power int
}

// with returns a map with one more carrier.
func (x powered) with(bits, power int) powered {
	return powered{toneMap: toneMap{bits: append(slices.Clone(x.bits), bits)}, power: x.power + power}
}

// before reports whether a map is better than another one with as many bits.
func (x powered) before(y powered) bool {
	return cmp.Or(cmp.Compare(x.power, y.power), slices.Compare(x.bits, y.bits)) < 0
}

// Best returns the best map under a budget, and its power.
func Best(t Tones, part, budget int) ([]int, int, api.Errno) {
	if e := common.First(checkPartOf(t, part), common.Within(budget, 0, MaxBudget)); e != api.OK {
		return nil, 0, e
	}
	best := []powered{{}}
	for _, powers := range allPowers(t, part) {
		best = extended(best, powers)
	}
	for best[len(best)-1].power > budget { // this ends: the map without bits takes no power
		best = best[:len(best)-1]
	}
	x := best[len(best)-1]
	return x.bits, x.power, api.OK
}

// extended returns the best map for each number of bits together, after one more carrier with some powers, from those before it. What is before this carrier in a best map is itself the best one with as many bits: it could be exchanged.
func extended(best []powered, powers []int) []powered {
	out := make([]powered, len(best)+len(powers)-1)
	for n, head := range best {
		for bits, power := range powers {
			x := head.with(bits, power)
			if y := out[n+bits]; y.bits == nil || x.before(y) {
				out[n+bits] = x
			}
		}
	}
	return out
}

// Bound returns the bound that a price proves.
func Bound(t Tones, part, budget, price int) (int, api.Errno) {
	e := common.First(checkPartOf(t, part), common.Within(budget, 0, MaxBudget), common.Within(price, 0, MaxPrice))
	if e != api.OK {
		return 0, e
	}
	bound := price * budget
	for _, powers := range allPowers(t, part) {
		bound += worth(price, powers)
	}
	return bound, api.OK
}

// worth returns the most thousandths of bits that a carrier with some powers is worth beyond what they cost at a price.
func worth(price int, powers []int) int {
	most := 0
	for bits, power := range powers {
		most = max(most, 1000*bits-price*power)
	}
	return most
}
