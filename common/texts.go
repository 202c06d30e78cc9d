package common

import "kilovar/api"

// Taker takes the next word of a line, and reports whether there is one.
type Taker func() (string, bool)

// LineForm is a form of lines: whether it may stand at an index, behind what was read so far, and how the words behind the first one are read.
type LineForm[T any] struct {
	Stands func(index int, before T) bool
	Read   func(out *T, take Taker) bool
}

// Parsed returns what a text says whose lines have the forms of their first words; or an error, with the index of the first line that has not its form, or with the number of lines if what they say is wrong.
func Parsed[T any](s string, forms map[string]LineForm[T], check func(T) api.Errno) (T, int, api.Errno) {
	var out, none T
	if len(s) > api.MaxText {
		return none, 0, api.ErrLong
	}
	lines := Lines(s)
	for i, line := range lines {
		if !readLine(&out, i, line, forms) {
			return none, i, api.ErrSyntax
		}
	}
	if e := check(out); e != api.OK {
		return none, len(lines), e
	}
	return out, 0, api.OK
}

// readLine adds what a line says, and reports whether it has its form: one with a word too many has none.
func readLine[T any](out *T, index int, line string, forms map[string]LineForm[T]) bool {
	words, ended := WordsOf(line)
	take := words.Take
	word, _ := take()
	form, known := forms[word]
	if !ended || !known || !form.Stands(index, *out) || !form.Read(out, take) {
		return false
	}
	_, more := take()
	return !more
}
