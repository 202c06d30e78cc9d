package code

import (
	"iter"
	"slices"

	"kilovar/api"
	"kilovar/common"
)

// Decode returns the word that a list with erased places is decoded to, and the places at which it differs.
func Decode(c Code, l, erased []int) ([]int, []int, api.Errno) {
	if e := common.First(CheckList(c, l), checkErased(erased, c.Length)); e != api.OK {
		return nil, nil, e
	}
	places, ok := suspects(c, l, erased)
	if !ok {
		return nil, nil, api.ErrCheck
	}
	word := repaired(c, l, places)
	return word, slices.Collect(differing(l, word)), api.OK
}

// suspects returns the places to which the differences of a list from the word that it is decoded to are confined, erased ones first; or false if the list is beyond the bound.
func suspects(c Code, l, erased []int) ([]int, bool) {
	spare := c.Checks - len(erased)
	if spare < 0 {
		return nil, false
	}
	rest, others := without(syndromes(c, l), erased...), sound(c.Length, erased)
	var found []int
	ok := false
search:
	for n := range spare/2 + 1 {
		for wrong := range setsOf(others, n) {
			if !slices.ContainsFunc(without(rest, wrong...), isWrong) {
				found, ok = slices.Concat(erased, wrong), true
				break search
			}
		}
	}
	return found, ok
}

// without returns what is left of successive syndromes when some places no longer count. A difference at the place i adds its symbol times 3 to the power of i j to the syndrome j; so each syndrome less 3 to the power of i times the one before it has nothing of this place, and of each other place k as much as before, times the difference of both powers of 3, which is not 0. If nothing but zeros is left, a word differs from the list only at these places.
func without(syndromes []int, places ...int) []int {
	rest := slices.Clone(syndromes)
	for _, i := range places {
		last := len(rest) - 1
		for j := range last {
			rest[j] = difference(rest[j+1], power(i)*rest[j]%Field)
		}
		rest = rest[:last]
	}
	return rest
}

// sound returns the places that are not erased.
func sound(length int, erased []int) []int {
	known := map[int]bool{}
	for _, i := range erased {
		known[i] = true
	}
	var out []int
	for i := range length {
		if !known[i] {
			out = append(out, i)
		}
	}
	return out
}

// setsOf visits all sets of n of some places.
func setsOf(places []int, n int) iter.Seq[[]int] {
	return func(yield func([]int) bool) {
		if n == 0 {
			yield(nil)
			return
		}
		for i, first := range places {
			for others := range setsOf(places[i+1:], n-1) {
				if !yield(append([]int{first}, others...)) {
					return
				}
			}
		}
	}
}

// repaired returns the word that differs from a list only at some places; there must be one, as there is for as many places as checks.
func repaired(c Code, l, places []int) []int {
	word := slices.Clone(l)
	s := syndromes(c, l)
	for at, i := range places {
		others := slices.Concat(places[:at], places[at+1:])
		word[i] = difference(l[i], excess(s, i, others))
	}
	return word
}

// excess returns how much the symbol of a place is above that of the word, if a list differs from it only there and at some others.
func excess(syndromes []int, place int, others []int) int {
	factor := power(place)
	for _, k := range others {
		factor = factor * difference(power(place), power(k)) % Field
	}
	return quotient(without(syndromes, others...)[0], factor)
}
