package carrier

import (
	"math"

	"kilovar/api"
)

// The permutation by a number steps through the remainders of this multiplier and modulus; 0 would lead to 0 for ever.
const (
	multiplier = 630360016
	modulus    = 2147483647
)

// scale is what leads from a sample to its integer.
const scale = 16

// IsName reports whether a string is a name.
func IsName(s string) bool {
	if len(s) < 1 || len(s) > api.MaxName {
		return false
	}
	for i, r := range s {
		if !isLetter(r) && (i == 0 || !isDigit(r) && r != '_') {
			return false
		}
	}
	return true
}

func isLetter(r rune) bool {
	return 'A' <= r && r <= 'Z' || 'a' <= r && r <= 'z'
}

func isDigit(r rune) bool {
	return '0' <= r && r <= '9'
}

// Draw returns the permutation of n elements by a number.
func Draw(number, n int) ([]int, api.Errno) {
	if e := first(within(number, 1, modulus-1), within(n, 0, api.MaxList)); e != api.OK {
		return nil, e
	}
	l := make([]int, n)
	for i := range n {
		l[i] = i
	}
	x := number
	for i := n - 1; i >= 1; i-- {
		x = multiplier * x % modulus
		j := x % (i + 1)
		l[i], l[j] = l[j], l[i]
	}
	return l, api.OK
}

// CheckRatio returns the first error of a ratio, or OK.
func CheckRatio(x api.Ratio) api.Errno {
	if e := first(within(x.Num, -api.MaxNumber, api.MaxNumber), within(x.Den, 1, api.MaxNumber)); e != api.OK {
		return e
	}
	return failIf(divisor(max(x.Num, -x.Num), x.Den) > 1, api.ErrForm)
}

// divisor returns the greatest common divisor; that of 0 and a number is this number.
func divisor(a, b int) int {
	for b != 0 {
		a, b = b, a%b
	}
	return a
}

// CheckSample returns the first error of a sample, or OK.
func CheckSample(x float32) api.Errno {
	return first(checkFinite(x), checkMultiple(x, api.MaxValue))
}

// CheckSamples returns the first error of samples, or OK.
func CheckSamples(l []float32) api.Errno {
	return checkList(l, api.MaxSamples, CheckSample)
}

func checkFinite(x float32) api.Errno {
	y := float64(x)
	return failIf(math.IsNaN(y) || math.IsInf(y, 0), api.ErrForm)
}

// checkMultiple returns ErrRange if a number is not a multiple of 1/16 from -limit to limit. It computes in float64, where 16 times any float32 is exact.
func checkMultiple(x float32, limit int) api.Errno {
	y := scale * float64(x)
	return failIf(y != math.Trunc(y) || math.Abs(y) > float64(scale*limit), api.ErrRange)
}

// integer returns the integer of a sample, or of a part of a panel.
func integer(x float32) int {
	return int(scale * x)
}

// sample returns the sample with an integer; it is never -0.
func sample(n int) float32 {
	return float32(n) / scale
}
