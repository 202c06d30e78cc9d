package carrier

import (
	"strconv"
	"strings"

	"kilovar/api"
)

// Print returns the string of samples.
func Print(l []float32) (string, api.Errno) {
	if e := CheckSamples(l); e != api.OK {
		return "", e
	}
	var s strings.Builder
	s.WriteString(lineOf("series", len(l)))
	for _, x := range l {
		s.WriteString(lineOf("sample", integer(x)))
	}
	return s.String(), api.OK
}

func lineOf(word string, n int) string {
	return word + " " + strconv.Itoa(n) + "\n"
}

// series is what the lines of a string say: the number of samples, and their integers.
type series struct {
	number   int
	integers []int
}

// lineForm is a form of lines: at which indices a line has it, and where its integer goes.
type lineForm struct {
	stands func(index int) bool
	store  func(r *series, n int)
}

// lineForms returns the forms of lines by their words.
func lineForms() map[string]lineForm {
	return map[string]lineForm{
		"series": {
			stands: func(index int) bool { return index == 0 },
			store:  func(r *series, n int) { r.number = n },
		},
		"sample": {
			stands: func(index int) bool { return index > 0 },
			store:  func(r *series, n int) { r.integers = append(r.integers, n) },
		},
	}
}

// Parse returns the samples of a string, and the index of the first line that is wrong.
func Parse(s string) ([]float32, int, api.Errno) {
	if len(s) > api.MaxLog {
		return nil, 0, api.ErrLong
	}
	lines := strings.SplitAfter(s, "\n")
	if len(lines) > 1 && lines[len(lines)-1] == "" { // what is after the last line feed; an empty string remains a line, a wrong one
		lines = lines[:len(lines)-1]
	}
	r, at, e := readSeries(lines)
	if e != api.OK {
		return nil, at, e
	}
	if e := first(failIf(len(r.integers) != r.number, api.ErrShape), checkEach(r.integers, checkInteger)); e != api.OK {
		return nil, len(lines), e
	}
	l := mapped(r.integers, sample)
	if e := CheckSamples(l); e != api.OK {
		return nil, len(lines), e
	}
	return l, 0, api.OK
}

// checkInteger returns ErrLarge if an integer is that of no sample, or OK.
func checkInteger(n int) api.Errno {
	return failIf(n < -scale*api.MaxValue || n > scale*api.MaxValue, api.ErrLarge)
}

// readSeries returns what lines say, or the index of the first one that has not its form.
func readSeries(lines []string) (series, int, api.Errno) {
	var r series
	forms := lineForms()
	for i, line := range lines {
		word, n, ok := readLine(line)
		form, known := forms[word]
		if !ok || !known || !form.stands(i) {
			return series{}, i, api.ErrSyntax
		}
		form.store(&r, n)
	}
	return r, 0, api.OK
}

// readLine returns the word and the integer of a line, and whether it has these two and a line feed.
func readLine(line string) (string, int, bool) {
	w := words{rest: line}
	take := w.until
	word, hasWord := take(" ")
	digits, hasEnd := take("\n")
	n, isInteger := integerOf(digits)
	if !hasWord || !hasEnd || !isInteger {
		return "", 0, false
	}
	return word, n, true
}

// words has what is left of a line.
type words struct {
	rest string
}

// until takes the word up to an end, and the end, and reports whether there is one: an end that is missing, or is there twice, must not pass as one.
func (w *words) until(end string) (string, bool) {
	word, rest, ok := strings.Cut(w.rest, end)
	w.rest = rest
	return word, ok
}

// integerOf returns the integer that a word is, and whether it is one: only without leading zeros, and without a sign that is not needed, does it come back from the number.
func integerOf(word string) (int, bool) {
	n, err := strconv.Atoi(word)
	if err != nil || strconv.Itoa(n) != word || within(n, -api.MaxNumber, api.MaxNumber) != api.OK {
		return 0, false
	}
	return n, true
}
