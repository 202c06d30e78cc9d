package credit

import (
	"math"
	"strings"

	"kilovar/api"
	"kilovar/common"
)

// The words with which lines begin.
const (
	accountWord = "account"
	keyWord     = "key"
	newWord     = "new"
	usedWord    = "used"
)

// Print returns the text of an account.
func Print(a Account) (string, api.Errno) {
	if e := CheckAccount(a); e != api.OK {
		return "", e
	}
	text := common.Line(accountWord, a.Balance, a.Debt, a.Share, a.Emergency) + keyLine(keyWord, a.Key)
	if a.Changing {
		text += keyLine(newWord, a.New)
	}
	used := common.Mapped(a.Used, func(number int) string { return common.Line(usedWord, number) })
	return text + strings.Join(used, ""), api.OK
}

func keyLine(word string, key api.Key) string {
	return common.Line(word, common.Mapped(key[:], func(b byte) int { return int(b) })...)
}

// reading is what was read of an account, and the integers that are the bytes of its keys.
type reading struct {
	Account
	bytes []int
}

// keyOf returns the key of eight integers, whatever they are worth.
func keyOf(numbers []int) api.Key {
	var key api.Key
	for i, n := range numbers {
		key[i] = byte(n)
	}
	return key
}

// check returns the error of what was read of a whole text, or OK.
func (x reading) check() api.Errno {
	return common.First(
		common.FailIf(len(x.bytes) == 0, api.ErrSyntax), // no line has the key
		common.Each(x.bytes, common.In(0, math.MaxUint8)),
		CheckAccount(x.Account),
	)
}

// form is a form of lines: their word, the first and the last index that they may have, how many integers follow, and how these are read. (No text has as many lines as bytes.)
type form struct {
	word  string
	first int
	last  int
	count int
	read  func(x *reading, numbers []int)
}

func forms() [4]form {
	return [4]form{
		{word: accountWord, first: 0, last: 0, count: 4, read: func(x *reading, numbers []int) {
			x.Balance, x.Debt, x.Share, x.Emergency = numbers[0], numbers[1], numbers[2], numbers[3]
		}},
		{word: keyWord, first: 1, last: 1, count: len(api.Key{}), read: func(x *reading, numbers []int) {
			x.Key = keyOf(numbers)
			x.bytes = append(x.bytes, numbers...)
		}},
		{word: newWord, first: 2, last: 2, count: len(api.Key{}), read: func(x *reading, numbers []int) {
			x.New, x.Changing = keyOf(numbers), true
			x.bytes = append(x.bytes, numbers...)
		}},
		{word: usedWord, first: 2, last: api.MaxText, count: 1, read: func(x *reading, numbers []int) {
			x.Used = append(x.Used, numbers[0])
		}},
	}
}

// lineForms returns the forms of lines by their words.
func lineForms() map[string]common.LineForm[reading] {
	out := map[string]common.LineForm[reading]{}
	for _, f := range forms() {
		out[f.word] = common.LineForm[reading]{
			Stands: func(index int, before reading) bool { return index >= f.first && index <= f.last },
			Read: func(x *reading, take common.Taker) bool {
				numbers, ok := common.Numbers(take, common.Money)
				if !ok || len(numbers) != f.count {
					return false
				}
				f.read(x, numbers)
				return true
			},
		}
	}
	return out
}

// Parse returns the account with a text, or the index of the first line that is wrong.
func Parse(s string) (Account, int, api.Errno) {
	x, i, e := common.Parsed(s, lineForms(), reading.check)
	return x.Account, i, e
}
