package code

import (
	"cmp"
	"slices"

	"kilovar/api"
	"kilovar/common"
)

// maxMessage is the greatest message length of which all words are compared: they are at most MaxWords.
const maxMessage = 2

// Nearest returns the nearest word of decisions, and its cost.
func Nearest(c Code, l []Decision) ([]int, int, api.Errno) {
	if e := checkSearch(c, l); e != api.OK {
		return nil, 0, e
	}
	nearest := ranked(c, l)[0]
	return nearest.symbols, nearest.cost, api.OK
}

// Second returns the second cost of decisions.
func Second(c Code, l []Decision) (int, api.Errno) {
	if e := checkSearch(c, l); e != api.OK {
		return 0, e
	}
	return ranked(c, l)[1].cost, api.OK
}

// Cost returns the cost of a word.
func Cost(c Code, l []Decision, word []int) (int, api.Errno) {
	if e := common.First(checkDecisions(c, l), CheckList(c, word)); e != api.OK {
		return 0, e
	}
	if !isWord(c, word) {
		return 0, api.ErrCheck
	}
	return costOf(l, word), api.OK
}

func checkSearch(c Code, l []Decision) api.Errno {
	return common.First(checkDecisions(c, l), common.FailIf(c.Length-c.Checks > maxMessage, api.ErrLimit))
}

func costOf(l []Decision, word []int) int {
	symbols := common.Mapped(l, func(d Decision) int { return d.Symbol })
	sum := 0
	for i := range differing(symbols, word) {
		sum += int(16 * l[i].Trust)
	}
	return sum
}

// candidate is a word that may be the nearest one.
type candidate struct {
	symbols []int
}

// costed is such a word with its cost.
type costed struct {
	candidate
	cost int
}

// compare returns -1 for the word that is nearer; of words with the same cost, for the one that comes first.
func (x costed) compare(y costed) int {
	return cmp.Or(cmp.Compare(x.cost, y.cost), slices.Compare(x.symbols, y.symbols))
}

// ranked returns all words, the nearest one first.
func ranked(c Code, l []Decision) []costed {
	words := common.Mapped(messages(c.Length-c.Checks), func(message []int) costed {
		word := encode(c, message)
		return costed{candidate: candidate{symbols: word}, cost: costOf(l, word)}
	})
	slices.SortFunc(words, costed.compare)
	return words
}

// messages returns all messages of a length.
func messages(length int) [][]int {
	out := [][]int{nil}
	for range length {
		var longer [][]int
		for _, head := range out {
			for x := range Field {
				longer = append(longer, append(slices.Clone(head), x))
			}
		}
		out = longer
	}
	return out
}
