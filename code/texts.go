package code

import (
	"slices"
	"strconv"
	"strings"

	"kilovar/api"
	"kilovar/common"
)

// opening is the word with which a line begins.
const opening = "word"

// Print returns the text of a list for a code.
func Print(c Code, l []int) (string, api.Errno) {
	if e := CheckList(c, l); e != api.OK {
		return "", e
	}
	numbers := c.numbers()
	words := common.Mapped(slices.Concat(numbers[:], l), strconv.Itoa)
	return opening + " " + strings.Join(words, " ") + "\n", api.OK
}

// Parse returns the code and the list of a text.
func Parse(s string) (Code, []int, api.Errno) {
	if len(s) > api.MaxText {
		return Code{}, nil, api.ErrLong
	}
	numbers, ok := read(s)
	if !ok || len(numbers) < 2 {
		return Code{}, nil, api.ErrSyntax
	}
	c, l := Code{Length: numbers[0], Checks: numbers[1]}, numbers[2:]
	if e := CheckList(c, l); e != api.OK {
		return Code{}, nil, e
	}
	return c, l, api.OK
}

// read returns the integers of a line, whatever they are worth, and whether it has its form. (A line feed before its end is part of a word that is no integer.)
func read(line string) ([]int, bool) {
	words, ended := common.WordsOf(line)
	take := words.Take
	first, _ := take()
	var numbers []int
	for word, more := take(); more; word, more = take() {
		n, ok := common.Natural(word)
		if !ok {
			return nil, false
		}
		numbers = append(numbers, n)
	}
	return numbers, ended && first == opening
}
