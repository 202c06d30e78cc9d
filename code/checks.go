package code

import (
	"kilovar/api"
	"kilovar/carrier"
	"kilovar/common"
)

// least and greatest have the bounds of both numbers of a code.
var (
	least    = [2]int{2, 1}
	greatest = [2]int{MaxLength, MaxChecks}
)

// numbers returns both numbers of a code: its length and its checks.
func (c Code) numbers() [2]int {
	return [2]int{c.Length, c.Checks}
}

// confined returns the numbers within their bounds that are nearest to some numbers.
func confined(numbers [2]int) [2]int {
	for i := range numbers {
		numbers[i] = min(max(numbers[i], least[i]), greatest[i])
	}
	return numbers
}

// ordered returns a code with no more checks than leave it a message.
func (c Code) ordered() Code {
	return Code{Length: c.Length, Checks: min(c.Checks, c.Length-1)}
}

// CheckCode returns the first error of a code, or OK.
func CheckCode(c Code) api.Errno {
	return common.First(
		common.FailIf(c.numbers() != confined(c.numbers()), api.ErrRange),
		common.FailIf(c != c.ordered(), api.ErrOrder),
	)
}

// CheckList returns the first error of a list of symbols for a code, or OK.
func CheckList(c Code, l []int) api.Errno {
	return common.First(CheckCode(c), checkSymbols(l, c.Length))
}

func checkSymbol(x int) api.Errno {
	return common.Within(x, 0, Field-1)
}

// checkSymbols returns the first error of a list that has a length, or OK.
func checkSymbols(l []int, length int) api.Errno {
	if len(l) != length {
		return api.ErrShape
	}
	return common.Each(l, checkSymbol)
}

// checkFree returns the first error of a list without a code, or OK.
func checkFree(l []int) api.Errno {
	return common.AtMost(l, api.MaxList, checkSymbol)
}

// checkErased returns the first error of erased places, or OK.
func checkErased(erased []int, length int) api.Errno {
	known := map[int]bool{}
	return common.AtMost(erased, length, func(place int) api.Errno {
		twice := known[place]
		known[place] = true
		return common.First(common.Index(place, length), common.FailIf(twice, api.ErrTwice))
	})
}

// checkDecisions returns the first error of a code and of decisions for it, or OK.
func checkDecisions(c Code, l []Decision) api.Errno {
	if e := CheckCode(c); e != api.OK {
		return e
	}
	if len(l) != c.Length {
		return api.ErrShape
	}
	return common.Each(l, checkDecision)
}

func checkDecision(d Decision) api.Errno {
	return common.First(checkSymbol(d.Symbol), carrier.CheckSample(d.Trust), common.FailIf(d.Trust < 0, api.ErrRange))
}

// checkRows returns the first error of rows, or OK: all lengths are examined before any symbol.
func checkRows(rows [][]int, limit int) api.Errno {
	e := common.Some(rows, limit, func(row []int) api.Errno {
		return common.FailIf(len(row) != len(rows[0]), api.ErrShape)
	})
	if e != api.OK {
		return e
	}
	if len(rows[0]) > MaxLength {
		return api.ErrMany
	}
	return common.Each(rows, func(row []int) api.Errno { return common.Each(row, checkSymbol) })
}
