package code

import (
	"kilovar/api"
	"kilovar/common"
)

// Spread returns the spread list of rows.
func Spread(rows [][]int) ([]int, api.Errno) {
	if e := checkRows(rows, MaxRows); e != api.OK {
		return nil, e
	}
	var out []int
	for place := range len(rows[0]) {
		for _, row := range rows {
			out = append(out, row[place])
		}
	}
	return out, api.OK
}

// Gathered returns the rows of a spread list.
func Gathered(l []int, rows int) ([][]int, api.Errno) {
	if e := common.First(checkFree(l), checkCount(rows)); e != api.OK {
		return nil, e
	}
	e := common.First(common.FailIf(len(l)%rows != 0, api.ErrShape), common.FailIf(len(l) > rows*MaxLength, api.ErrMany))
	if e != api.OK {
		return nil, e
	}
	out := make([][]int, rows)
	for i, x := range l {
		row := i % rows
		out[row] = append(out[row], x)
	}
	return out, api.OK
}

// checkCount returns the error of a number of rows, or OK.
func checkCount(rows int) api.Errno {
	return common.Within(rows, 1, MaxRows)
}

// Burst returns how many symbols of one row a burst can hit.
func Burst(rows, length, many int) (int, api.Errno) {
	e := common.First(checkCount(rows), common.Within(length, 1, MaxLength), common.Within(many, 0, api.MaxList))
	if e != api.OK {
		return 0, e
	}
	hit := min(many, rows*length)
	return (hit + rows - 1) / rows, api.OK
}

// Survives reports whether a code survives a burst.
func Survives(c Code, rows, many int, told bool) (bool, api.Errno) {
	if e := CheckCode(c); e != api.OK {
		return false, e
	}
	needed, e := Burst(rows, c.Length, many)
	if e != api.OK {
		return false, e
	}
	if !told { // an error takes two checks, an erasure one
		needed *= 2
	}
	return needed <= c.Checks, api.OK
}
