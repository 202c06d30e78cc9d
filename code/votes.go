package code

import (
	"slices"

	"kilovar/api"
	"kilovar/common"
)

// Repeated returns a list several times.
func Repeated(l []int, times int) ([][]int, api.Errno) {
	e := common.First(checkFree(l), common.Within(times, 1, MaxVotes), common.FailIf(len(l) > MaxLength, api.ErrMany))
	if e != api.OK {
		return nil, e
	}
	var out [][]int
	for range times {
		out = append(out, slices.Clone(l))
	}
	return out, api.OK
}

// Voted returns the voted list, and its erased places.
func Voted(l [][]int) ([]int, []int, api.Errno) {
	if e := checkRows(l, MaxVotes); e != api.OK {
		return nil, nil, e
	}
	var voted, erased []int
	for place := range len(l[0]) {
		votes := newTally()
		for _, list := range l {
			votes.add(list[place])
		}
		symbol, ok := votes.lead()
		if !ok {
			erased = append(erased, place)
		}
		voted = append(voted, symbol)
	}
	return voted, erased, api.OK
}

// tally counts votes: add counts one more, lead returns the symbol with more of them than any other symbol, or 0 and false.
type tally struct {
	add  func(symbol int)
	lead func() (int, bool)
}

func newTally() tally {
	var counts [Field]int
	return tally{
		add: func(symbol int) { counts[symbol]++ },
		lead: func() (int, bool) {
			most := slices.Max(counts[:])
			first := slices.Index(counts[:], most)
			if slices.Contains(counts[first+1:], most) {
				return 0, false
			}
			return first, true
		},
	}
}

// Nibbles returns the nibbles of bytes.
func Nibbles(b []byte) ([]int, api.Errno) {
	if len(b) > MaxBytes {
		return nil, api.ErrMany
	}
	var out []int
	for _, x := range b {
		out = append(out, int(x/16), int(x%16))
	}
	return out, api.OK
}

// Packed returns the bytes of nibbles.
func Packed(l []int) ([]byte, api.Errno) {
	e := common.First(
		checkFree(l),
		common.FailIf(len(l)%2 != 0, api.ErrShape),
		common.FailIf(slices.Contains(l, Field-1), api.ErrForm),
	)
	if e != api.OK {
		return nil, e
	}
	var out []byte
	for pair := range slices.Chunk(l, 2) {
		out = append(out, byte(16*pair[0]+pair[1]))
	}
	return out, api.OK
}
