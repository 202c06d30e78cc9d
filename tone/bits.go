package tone

import (
	"kilovar/api"
	"kilovar/common"
)

// checkBearing returns the error of a map for data, or OK: without a bit it could bear none.
func checkBearing(bits []int) api.Errno {
	sum := 0
	for _, n := range bits {
		sum += n
	}
	return common.First(checkMap(bits), common.FailIf(sum == 0, api.ErrZero))
}

// Loaded returns the levels of bits on the carriers of a map, symbol by symbol.
func Loaded(bits []int, data []bool) ([][]int, api.Errno) {
	if e := common.First(checkBearing(bits), common.FailIf(len(data) > MaxData, api.ErrMany)); e != api.OK {
		return nil, e
	}
	var out [][]int
	for rest := data; len(rest) > 0; {
		levels := make([]int, len(bits))
		for carrier, n := range bits {
			number, behind := cut(rest, n)
			levels[carrier] = levelOf(number)
			rest = behind
		}
		out = append(out, levels)
	}
	return out, api.OK
}

// cut returns the number that the first n bits of data make, and what is behind them; behind the end all bits are 0.
func cut(data []bool, n int) (int, []bool) {
	number := 0
	for range n {
		number *= 2
		if len(data) == 0 {
			continue
		}
		if data[0] {
			number++
		}
		data = data[1:]
	}
	return number, data
}

// numberOf returns the number that the bits of a level make.
func numberOf(level int) int {
	return level ^ level/2
}

// levelOf returns the level whose bits make a number.
func levelOf(number int) int {
	level := 0
	for ; number > 0; number /= 2 {
		level ^= number
	}
	return level
}

// Unloaded returns the bits of levels.
func Unloaded(bits []int, levels [][]int, n int) ([]bool, api.Errno) {
	if e := checkBearing(bits); e != api.OK { // a number of bits below 0 has no levels to compare with
		return nil, e
	}
	e := common.First(
		common.AtMost(levels, MaxData, func(symbol []int) api.Errno { return checkSymbol(bits, symbol) }),
		common.Within(n, 0, MaxData),
	)
	if e != api.OK {
		return nil, e
	}
	var out []bool
	for _, symbol := range levels {
		for carrier, level := range symbol {
			out = withBits(out, numberOf(level), bits[carrier])
		}
	}
	if len(out) < n {
		return nil, api.ErrShort
	}
	return out[:n], api.OK
}

func checkSymbol(bits, symbol []int) api.Errno {
	if len(symbol) != len(bits) {
		return api.ErrShape
	}
	for carrier, level := range symbol {
		if e := common.Within(level, 0, 1<<bits[carrier]-1); e != api.OK {
			return e
		}
	}
	return api.OK
}

// withBits returns data with the n bits of a number behind them, the highest one first.
func withBits(data []bool, number, n int) []bool {
	for i := range n {
		data = append(data, number>>(n-1-i)%2 == 1)
	}
	return data
}

// Voted returns the vote of copies.
func Voted(copies [][]int) ([]int, api.Errno) {
	e := common.Some(copies, MaxCopies, func(l []int) api.Errno {
		return common.First(common.FailIf(len(l) != len(copies[0]), api.ErrShape), common.AtMost(l, MaxData, common.In(-1, 1)))
	})
	if e != api.OK {
		return nil, e
	}
	var out []int
	for at := range copies[0] {
		out = append(out, voteAt(copies, at))
	}
	return out, api.OK
}

func voteAt(copies [][]int, at int) int {
	lead := 0 // how many more copies have 1 than 0
	for _, l := range copies {
		switch l[at] {
		case 1:
			lead++
		case 0:
			lead--
		}
	}
	switch {
	case lead > 0:
		return 1
	case lead < 0:
		return 0
	}
	return -1
}
