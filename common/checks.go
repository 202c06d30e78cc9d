// Package common has what the layers above carrier share: first errors, checks of numbers, names and lists, lists that are transformed, and the lines of texts. (Package carrier depends on package api alone, and has its own.)
package common

import (
	"math"

	"kilovar/api"
	"kilovar/carrier"
)

// First returns the first error of several, or OK. All of them are computed before it is called: each must be defined even if one before it is an error.
func First(errors ...api.Errno) api.Errno {
	for _, e := range errors {
		if e != api.OK {
			return e
		}
	}
	return api.OK
}

// FailIf returns an error if a condition holds, or OK.
func FailIf(bad bool, e api.Errno) api.Errno {
	if bad {
		return e
	}
	return api.OK
}

// Within returns ErrRange if a number is not from low to high, or OK.
func Within(x, low, high int) api.Errno {
	return FailIf(x < low || x > high, api.ErrRange)
}

// In returns the check whether a number is from low to high.
func In(low, high int) func(int) api.Errno {
	return func(x int) api.Errno { return Within(x, low, high) }
}

// Index returns ErrUnknown if a number is not the index of one of n elements, or OK.
func Index(i, n int) api.Errno {
	return FailIf(i < 0 || i >= n, api.ErrUnknown)
}

// Name returns ErrName if a string is not a name, or OK.
func Name(s string) api.Errno {
	return FailIf(!carrier.IsName(s), api.ErrName)
}

// Once returns the check whether the elements of one list differ: none stands before.
func Once[T comparable]() func(T) api.Errno {
	seen := map[T]bool{}
	return func(x T) api.Errno {
		twice := seen[x]
		seen[x] = true
		return FailIf(twice, api.ErrTwice)
	}
}

// Rising returns the check whether the numbers of one list rise: each is above the one before it.
func Rising() func(int) api.Errno {
	before := math.MinInt
	return func(x int) api.Errno {
		e := FailIf(x <= before, api.ErrOrder)
		before = x
		return e
	}
}

// Ascending returns the check whether the elements of one list are indices of n elements, each above the one before it.
func Ascending(n int) func(int) api.Errno {
	order := Rising()
	return func(i int) api.Errno { return First(Index(i, n), order(i)) }
}
