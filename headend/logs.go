package headend

import (
	"slices"
	"strconv"
	"strings"

	"kilovar/api"
	"kilovar/common"
)

// The checksum of a string begins with 1, is multiplied for each byte, and is taken by a modulus; mark stands before its digits.
const (
	multiplier = 359
	modulus    = 9999631
	digits     = 7
	mark       = '#'
)

// checksum returns the digits of the checksum of a string.
func checksum(s string) string {
	x := 1
	for _, b := range []byte(s) {
		x = (multiplier*x + int(b)) % modulus
	}
	var out [digits]byte
	for i := range digits {
		out[digits-1-i] = byte('0' + x%10)
		x /= 10
	}
	return string(out[:])
}

// isChecksum reports whether a string has the form of a checksum.
func isChecksum(s string) bool {
	for _, r := range s {
		if r < '0' || r > '9' {
			return false
		}
	}
	return len(s) == digits
}

// body returns the body of an event.
func body(e api.Event) string {
	words := slices.Concat([]string{strconv.Itoa(e.Number), e.Kind}, e.Names, common.Mapped(e.Values, strconv.Itoa))
	return strings.Join(words, " ")
}

// record returns the record of an event.
func record(e api.Event) string {
	s := body(e)
	return s + string(mark) + checksum(s) + "\n"
}

// someWords takes a number of words, and reports whether each of them is there and not empty.
func someWords(take common.Taker, n int) ([]string, bool) {
	var out []string
	for range n {
		word, _ := take()
		if word == "" {
			return nil, false
		}
		out = append(out, word)
	}
	return out, true
}

// read takes all words that are left, and returns the event, without its number, that they are; or false if they have not the form of one.
func (all kinds) read(take common.Taker) (api.Event, bool) {
	word, _ := take()
	k, known := all[word]
	if !known {
		return api.Event{}, false
	}
	names, hasNames := someWords(take, k.names())
	values, hasValues := common.Numbers(take, common.Natural)
	return api.Event{Kind: word, Names: names, Values: values}, hasNames && hasValues && len(values) == k.values
}

// readBody returns the event with a body, and whether there is one without an error.
func (all kinds) readBody(s string) (api.Event, bool) {
	take := common.WordsIn(s).Take
	word, _ := take()
	number, isNumber := common.Natural(word)
	e, ok := all.read(take)
	e.Number = number
	return e, isNumber && ok && all.check(e) == api.OK
}

// readRecord returns the event of a line of a log, or the error of a line that is not the record of an event with a number.
func (all kinds) readRecord(line string, number int) (api.Event, api.Errno) {
	text, ended := strings.CutSuffix(line, "\n")
	if !ended {
		return api.Event{}, api.ErrTorn
	}
	at := len(text) - digits - 1
	if at < 0 || text[at] != mark || !isChecksum(text[at+1:]) {
		return api.Event{}, api.ErrSyntax
	}
	if checksum(text[:at]) != text[at+1:] {
		return api.Event{}, api.ErrCheck
	}
	e, ok := all.readBody(text[:at])
	return e, common.First(common.FailIf(!ok, api.ErrSyntax), common.FailIf(e.Number != number, api.ErrOrder))
}

// Recover returns the events of the longest prefix that is a log, its length, and the error of the rest.
func Recover(log string) ([]api.Event, int, api.Errno) {
	if len(log) > api.MaxLog {
		return nil, 0, api.ErrLong
	}
	all := allKinds()
	var out []api.Event
	size := 0
	for _, line := range common.Lines(log) {
		x, e := all.readRecord(line, len(out)+1)
		if e != api.OK {
			return out, size, e
		}
		out = append(out, x)
		size += len(line)
	}
	return out, size, api.OK
}

// Append returns a log with the record of a further event.
func Append(log string, e api.Event) (string, api.Errno) {
	l, _, wrong := Recover(log)
	if wrong = common.First(wrong, CheckEvent(e), common.FailIf(e.Number != len(l)+1, api.ErrOrder)); wrong != api.OK {
		return "", wrong
	}
	out := log + record(e)
	if len(out) > api.MaxLog {
		return "", api.ErrLong
	}
	return out, api.OK
}
