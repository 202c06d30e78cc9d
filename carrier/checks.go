package carrier

import "kilovar/api"

// first returns the first error of several, or OK. All of them are computed before it is called: each must be defined even if one before it is an error.
func first(errors ...api.Errno) api.Errno {
	for _, e := range errors {
		if e != api.OK {
			return e
		}
	}
	return api.OK
}

// failIf returns an error if a condition holds, or OK.
func failIf(bad bool, e api.Errno) api.Errno {
	if bad {
		return e
	}
	return api.OK
}

// within returns ErrRange if a number is not from low to high, or OK.
func within(x, low, high int) api.Errno {
	return failIf(x < low || x > high, api.ErrRange)
}

// checkList returns ErrMany if a list has more elements than its limit, then the error of the first element with one, or OK.
func checkList[T any](l []T, limit int, check func(T) api.Errno) api.Errno {
	if len(l) > limit {
		return api.ErrMany
	}
	return checkEach(l, check)
}

// checkEach returns the error of the first element with one, or OK.
func checkEach[T any](l []T, check func(T) api.Errno) api.Errno {
	for _, x := range l {
		if e := check(x); e != api.OK {
			return e
		}
	}
	return api.OK
}

// mapped returns what becomes of each element of a list.
func mapped[T, U any](l []T, change func(T) U) []U {
	out := make([]U, len(l))
	for i, x := range l {
		out[i] = change(x)
	}
	return out
}
