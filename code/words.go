package code

import (
	"iter"
	"slices"

	"kilovar/api"
	"kilovar/common"
)

// Syndromes returns the syndromes of a list.
func Syndromes(c Code, l []int) ([]int, api.Errno) {
	if e := CheckList(c, l); e != api.OK {
		return nil, e
	}
	return syndromes(c, l), api.OK
}

func syndromes(c Code, l []int) []int {
	var out []int
	for j := range c.Checks {
		sum := 0
		for i, x := range l {
			sum += x * power(i*(j+1))
		}
		out = append(out, sum%Field)
	}
	return out
}

// IsWord reports whether a list is a word.
func IsWord(c Code, l []int) (bool, api.Errno) {
	if e := CheckList(c, l); e != api.OK {
		return false, e
	}
	return isWord(c, l), api.OK
}

func isWord(c Code, l []int) bool {
	return !slices.ContainsFunc(syndromes(c, l), isWrong)
}

// isWrong reports whether a syndrome is not that of a word.
func isWrong(syndrome int) bool {
	return syndrome != 0
}

// Encode returns the word of a message.
func Encode(c Code, message []int) ([]int, api.Errno) {
	if e := common.First(CheckCode(c), checkSymbols(message, c.Length-c.Checks)); e != api.OK {
		return nil, e
	}
	return encode(c, message), api.OK
}

// encode returns the word of a message: it differs from the message behind zeros only at the places of these.
func encode(c Code, message []int) []int {
	var places []int
	for i := range c.Checks {
		places = append(places, i)
	}
	return repaired(c, slices.Concat(make([]int, c.Checks), message), places)
}

// Message returns the message of a word.
func Message(c Code, l []int) ([]int, api.Errno) {
	if e := CheckList(c, l); e != api.OK {
		return nil, e
	}
	if !isWord(c, l) {
		return nil, api.ErrCheck
	}
	return slices.Clone(l[c.Checks:]), api.OK
}

// Distance returns the distance of two lists.
func Distance(a, b []int) (int, api.Errno) {
	if e := common.First(checkFree(a), checkFree(b), common.FailIf(len(a) != len(b), api.ErrShape)); e != api.OK {
		return 0, e
	}
	n := 0
	for range differing(a, b) {
		n++
	}
	return n, api.OK
}

// differing visits the places at which two lists of one length differ.
func differing(a, b []int) iter.Seq[int] {
	return func(yield func(int) bool) {
		for i, x := range a {
			if x != b[i] && !yield(i) {
				return
			}
		}
	}
}
