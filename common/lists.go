package common

import "kilovar/api"

// Each returns the error of the first element with one, or OK.
func Each[T any](l []T, check func(T) api.Errno) api.Errno {
	for _, x := range l {
		if e := check(x); e != api.OK {
			return e
		}
	}
	return api.OK
}

// AtMost returns ErrMany if a list has more elements than its limit, then the error of the first element with one, or OK.
func AtMost[T any](l []T, limit int, check func(T) api.Errno) api.Errno {
	if len(l) > limit {
		return api.ErrMany
	}
	return Each(l, check)
}

// Some is AtMost of a list that must not be empty: before all else it returns ErrEmpty if there are no elements.
func Some[T any](l []T, limit int, check func(T) api.Errno) api.Errno {
	if len(l) == 0 {
		return api.ErrEmpty
	}
	return AtMost(l, limit, check)
}

// Mapped returns what becomes of each element of a list.
func Mapped[T, U any](l []T, change func(T) U) []U {
	out := make([]U, len(l))
	for i, x := range l {
		out[i] = change(x)
	}
	return out
}

// Filtered returns the elements of a list that have a property, which depends on something else.
func Filtered[T, U any](l []T, has func(T, U) bool, other U) []T {
	var out []T
	for _, x := range l {
		if has(x, other) {
			out = append(out, x)
		}
	}
	return out
}
