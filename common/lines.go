package common

import (
	"strconv"
	"strings"
)

// The most digits of an integer in a text, and of one that may be money.
const (
	maxDigits   = 9
	moneyDigits = 13
)

// Lines returns the lines of a text, each with its line feed; what is after the last line feed is a line, too, if it is not empty.
func Lines(text string) []string {
	lines := strings.SplitAfter(text, "\n")
	if last := len(lines) - 1; lines[last] == "" {
		return lines[:last]
	}
	return lines
}

// Words has the words of a line that are not taken yet.
type Words struct {
	rest []string
}

// WordsIn returns the words of a string. A blank that is one too many stands beside an empty word, which is a word of no form.
func WordsIn(s string) *Words {
	return &Words{rest: strings.Split(s, " ")}
}

// WordsOf returns the words of a line, and whether it has a line feed at its end.
func WordsOf(line string) (*Words, bool) {
	text, ended := strings.CutSuffix(line, "\n")
	return WordsIn(text), ended
}

// Take takes the next word, and reports whether there is one.
func (w *Words) Take() (string, bool) {
	if len(w.rest) == 0 {
		return "", false
	}
	word := w.rest[0]
	w.rest = w.rest[1:]
	return word, true
}

// Natural returns the integer that a word of digits alone is, and whether it is one: each integer has just one form.
func Natural(word string) (int, bool) {
	return natural(word, maxDigits)
}

func natural(word string, most int) (int, bool) {
	if word == "" || len(word) > most || word[0] == '0' && word != "0" {
		return 0, false
	}
	n := 0
	for _, r := range word {
		if r < '0' || r > '9' {
			return 0, false
		}
		n = 10*n + int(r-'0')
	}
	return n, true
}

// Integer returns the integer that a word of digits, or of digits behind a minus sign, is, and whether it is one: each integer has just one form.
func Integer(word string) (int, bool) {
	return integer(word, maxDigits)
}

// Money is Integer with as many digits as the greatest amounts of money have.
func Money(word string) (int, bool) {
	return integer(word, moneyDigits)
}

func integer(word string, most int) (int, bool) {
	digits, negative := strings.CutPrefix(word, "-")
	n, ok := natural(digits, most)
	if !negative {
		return n, ok
	}
	return -n, ok && n != 0
}

// Naturals returns the first word of a line, and the integers that all further words are; or false if one of these is not digits alone, or the line has no line feed at its end.
func Naturals(line string) (string, []int, bool) {
	words, ended := WordsOf(line)
	take := words.Take
	first, _ := take()
	numbers, ok := Numbers(take, Natural)
	if !ok || !ended {
		return "", nil, false
	}
	return first, numbers, true
}

// Integers takes all words that are left, and returns the integers that they are; or false if one of them is none.
func Integers(take Taker) ([]int, bool) {
	return Numbers(take, Integer)
}

// Numbers takes all words that are left, and returns the numbers that they are, as one of the functions above reads them; or false if one of them is none.
func Numbers(take Taker, number func(word string) (int, bool)) ([]int, bool) {
	var out []int
	for word, more := take(); more; word, more = take() {
		n, ok := number(word)
		if !ok {
			return nil, false
		}
		out = append(out, n)
	}
	return out, true
}

// Line returns the line with a word and numbers behind it.
func Line(word string, numbers ...int) string {
	words := append([]string{word}, Mapped(numbers, strconv.Itoa)...)
	return strings.Join(words, " ") + "\n"
}
