package access

import (
	"slices"
	"strings"

	"kilovar/api"
	"kilovar/common"
)

// The words with which lines begin.
const (
	objectWord = "object"
	grantWord  = "grant"
)

// Print returns the text of a book.
func Print(b Book) (string, api.Errno) {
	if e := CheckBook(b); e != api.OK {
		return "", e
	}
	return strings.Join(slices.Concat(common.Mapped(b.Objects, objectLine), common.Mapped(b.Grants, grantLine)), ""), api.OK
}

func objectLine(o Object) string {
	return lineOf([]string{objectWord, o.Name, o.Owner})
}

func grantLine(g Grant) string {
	words := []string{grantWord}
	for _, n := range names() {
		words = append(words, *n.of(&g))
	}
	return lineOf(words, g.Days.From, g.Days.To)
}

// lineOf returns the line with some words, and numbers behind them.
func lineOf(words []string, numbers ...int) string {
	return common.Line(strings.Join(words, " "), numbers...)
}

// Parse returns the book of a text, and the index of the first line that is wrong.
func Parse(s string) (Book, int, api.Errno) {
	return common.Parsed(s, lineForms(), CheckBook)
}

// lineForms returns the forms of lines by their first words.
func lineForms() map[string]common.LineForm[Book] {
	return map[string]common.LineForm[Book]{
		objectWord: {
			Stands: func(index int, before Book) bool { return len(before.Grants) == 0 },
			Read:   readObject,
		},
		grantWord: {
			Stands: func(index int, before Book) bool { return true },
			Read:   readGrant,
		},
	}
}

func readObject(b *Book, take common.Taker) bool {
	name, _ := take()
	owner, _ := take()
	b.Objects = append(b.Objects, Object{Name: name, Owner: owner})
	return name != "" && owner != ""
}

func readGrant(b *Book, take common.Taker) bool {
	var g Grant
	for _, n := range names() {
		word, _ := take()
		if word == "" {
			return false
		}
		*n.of(&g) = word
	}
	numbers, ok := common.Numbers(take, common.Natural)
	if !ok || len(numbers) != 2 {
		return false
	}
	g.Days = api.Span{From: numbers[0], To: numbers[1]}
	b.Grants = append(b.Grants, g)
	return true
}
