package code_test

import (
	"fmt"
	"math/rand"
	"slices"
	"testing"

	"kilovar/api"
	"kilovar/code"
)

// same compares results with the expected ones; nil and empty lists are equal.
func same(t *testing.T, what string, got, want any) {
	t.Helper()
	if g, w := fmt.Sprintf("%+v", got), fmt.Sprintf("%+v", want); g != w {
		t.Errorf("%s: got %s, want %s", what, g, w)
	}
}

// all returns all results of a call in one.
func all(results ...any) []any { return results }

// value returns a result whose error another test examines.
func value[T any](x T, _ api.Errno) T { return x }

func ints(l ...int) []int { return l }

func lists(l ...[]int) [][]int { return l }

func repeated[T any](x T, n int) []T {
	var out []T
	for range n {
		out = append(out, x)
	}
	return out
}

// of returns a code.
func of(length, checks int) code.Code { return code.Code{Length: length, Checks: checks} }

// small is the code C of the examples.
func small() code.Code { return of(4, 2) }

// allCodes has all codes with a message length up to some one.
func allCodes(message int) []code.Code {
	var out []code.Code
	for length := 2; length <= 16; length++ {
		for checks := 1; checks <= 8; checks++ {
			if n := length - checks; n >= 1 && n <= message {
				out = append(out, of(length, checks))
			}
		}
	}
	return out
}

// syndromesOf computes syndromes by the powers of 3 themselves.
func syndromesOf(c code.Code, l []int) []int {
	var out []int
	for j := 1; j <= c.Checks; j++ {
		sum := 0
		for i, x := range l {
			for range i * j {
				x = x * 3 % 17
			}
			sum = (sum + x) % 17
		}
		out = append(out, sum)
	}
	return out
}

// isWordOf reports whether all syndromes of a list are 0.
func isWordOf(c code.Code, l []int) bool {
	return !slices.ContainsFunc(syndromesOf(c, l), func(x int) bool { return x != 0 })
}

// generator is the coefficients of the polynomial whose roots are the powers of 3 from 1 on up to the checks: the words are its multiples.
func generator(c code.Code) []int {
	g := ints(1)
	root := 1
	for range c.Checks {
		root = root * 3 % 17
		next := make([]int, len(g)+1)
		for i, x := range g {
			next[i+1] += x
			next[i] += (17 - root) * x
		}
		for i := range next {
			next[i] %= 17
		}
		g = next
	}
	return g
}

// wordsOf returns all words of a code, by the multiples of its generator, in order.
func wordsOf(c code.Code) [][]int {
	g := generator(c)
	out := lists(make([]int, c.Length))
	for shift := range c.Length - c.Checks {
		var more [][]int
		for _, w := range out {
			for factor := range 17 {
				v := slices.Clone(w)
				for i, x := range g {
					v[shift+i] = (v[shift+i] + factor*x) % 17
				}
				more = append(more, v)
			}
		}
		out = more
	}
	slices.SortFunc(out, slices.Compare[[]int])
	return out
}

func randomSymbols(r *rand.Rand, n int) []int {
	var out []int
	for range n {
		out = append(out, r.Intn(17))
	}
	return out
}

func randomWord(r *rand.Rand, c code.Code) []int {
	return value(code.Encode(c, randomSymbols(r, c.Length-c.Checks)))
}

// spoilt returns a list in which each of some places has another symbol.
func spoilt(r *rand.Rand, l []int, places ...int) []int {
	out := slices.Clone(l)
	for _, i := range places {
		out[i] = (out[i] + 1 + r.Intn(16)) % 17
	}
	return out
}

// sorted returns a list in order.
func sorted(l []int) []int {
	out := slices.Clone(l)
	slices.Sort(out)
	return out
}

// listErrors are lists of symbols for the code C that are none, and codes that are none, and their errors.
var listErrors = []struct {
	c code.Code
	l []int
	e api.Errno
}{
	{of(1, 1), ints(1, 2, 3, 4), api.ErrRange}, {of(17, 8), make([]int, 17), api.ErrRange}, {of(4, 0), ints(1, 2, 3, 4), api.ErrRange}, {of(16, 9), make([]int, 16), api.ErrRange},
	{of(4, 4), ints(1, 2, 3, 4), api.ErrOrder}, {of(4, 4), ints(1, 2), api.ErrOrder}, {of(0, 0), nil, api.ErrRange},
	{of(4, 2), nil, api.ErrShape}, {of(4, 2), ints(0, 0, 0), api.ErrShape}, {of(4, 2), ints(0, 0, 0, 0, 0), api.ErrShape}, {of(4, 2), ints(17, 0, 0), api.ErrShape}, {of(4, 2), ints(0, 0, 0, 0, -1), api.ErrShape},
	{of(4, 2), ints(17, 0, 0, 0), api.ErrRange}, {of(4, 2), ints(0, 0, 0, 17), api.ErrRange}, {of(4, 2), ints(-1, 0, 0, 0), api.ErrRange}, {of(4, 2), ints(0, 0, 0, -17), api.ErrRange},
}

// freeErrors are lists without a code that are none, and their errors.
var freeErrors = []struct {
	l []int
	e api.Errno
}{
	{make([]int, 257), api.ErrMany}, {repeated(17, 257), api.ErrMany}, {ints(17), api.ErrRange}, {ints(-1), api.ErrRange}, {ints(0, 16, 17), api.ErrRange}, {append(make([]int, 255), -1), api.ErrRange},
}

// rowErrors are rows that are none, and their errors; of too many rows each function has its own.
var rowErrors = []struct {
	rows [][]int
	e    api.Errno
}{
	{nil, api.ErrEmpty}, {lists(), api.ErrEmpty},
	{lists(ints(1), ints(1, 2)), api.ErrShape}, {lists(ints(1, 2), ints(1)), api.ErrShape}, {lists(nil, ints(1)), api.ErrShape}, {lists(ints(1), nil), api.ErrShape},
	{lists(ints(17), ints(1, 2)), api.ErrShape}, {lists(make([]int, 17), ints(1)), api.ErrShape}, {lists(make([]int, 16), make([]int, 17)), api.ErrShape},
	{lists(make([]int, 17)), api.ErrMany}, {lists(make([]int, 17), make([]int, 17)), api.ErrMany}, {lists(repeated(17, 17)), api.ErrMany},
	{lists(ints(17)), api.ErrRange}, {lists(ints(-1)), api.ErrRange}, {lists(ints(1), ints(17)), api.ErrRange}, {lists(ints(1, 2), ints(1, -1)), api.ErrRange},
}
