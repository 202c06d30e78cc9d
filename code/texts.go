package code

import (
	"slices"

	"kilovar/api"
	"kilovar/common"
)

// opening is the word with which a line begins.
const opening = "word"

// Print returns the text of a list for a code.
func Print(c Code, l []int) (string, api.Errno) {
	if e := CheckList(c, l); e != api.OK {
		return "", e
	}
	numbers := c.numbers()
	return common.Line(opening, slices.Concat(numbers[:], l)...), api.OK
}

// Parse returns the code and the list of a text.
func Parse(s string) (Code, []int, api.Errno) {
	if len(s) > api.MaxText {
		return Code{}, nil, api.ErrLong
	}
	word, numbers, ok := common.Naturals(s) // a line feed before the end of the string is part of a word that is no integer
	if !ok || word != opening || len(numbers) < 2 {
		return Code{}, nil, api.ErrSyntax
	}
	c, l := Code{Length: numbers[0], Checks: numbers[1]}, numbers[2:]
	if e := CheckList(c, l); e != api.OK {
		return Code{}, nil, e
	}
	return c, l, api.OK
}
