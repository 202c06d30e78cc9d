package tone

import (
	"slices"
	"strconv"
	"strings"

	"kilovar/api"
	"kilovar/common"
)

// The words with which lines begin.
const (
	mainsWord = "mains"
	nodeWord  = "node"
	loadWord  = "load"
)

// Print returns the text of mains.
func Print(m Mains) (string, api.Errno) {
	if e := CheckMains(m); e != api.OK {
		return "", e
	}
	text := lineOf(m.Cross, mainsWord, strconv.Itoa(m.Carriers))
	for _, n := range m.Nodes {
		text += lineOf(n.Factors, nodeWord, n.Name, strconv.Itoa(n.Up), strconv.Itoa(n.Phase))
	}
	for _, l := range m.Loads {
		text += lineOf(l.Factors, loadWord, strconv.Itoa(l.Node), l.State)
	}
	return text, api.OK
}

// lineOf returns the line with some words, and behind them the parts of factors.
func lineOf(factors []api.Gauss, words ...string) string {
	line := strings.Join(words, " ")
	for _, x := range factors {
		line += " " + strconv.Itoa(x.Re) + " " + strconv.Itoa(x.Im)
	}
	return line + "\n"
}

// Parse returns the mains with a text, or the index of the first line that is wrong.
func Parse(s string) (Mains, int, api.Errno) {
	if s == "" {
		return Mains{}, 0, api.ErrSyntax
	}
	return common.Parsed(s, lineForms(), CheckMains)
}

// lineForms returns the forms of lines by their first words.
func lineForms() map[string]common.LineForm[Mains] {
	return map[string]common.LineForm[Mains]{
		mainsWord: {
			Stands: func(index int, before Mains) bool { return index == 0 },
			Read:   readHead,
		},
		nodeWord: {
			Stands: func(index int, before Mains) bool { return index > 0 && len(before.Loads) == 0 },
			Read:   readNode,
		},
		loadWord: {
			Stands: func(index int, before Mains) bool { return index > 0 },
			Read:   readLoad,
		},
	}
}

func readHead(m *Mains, take common.Taker) bool {
	carriers, ok := takeInteger(take)
	cross, even := takeFactors(take)
	m.Carriers, m.Cross = carriers, cross
	return ok && even
}

func readNode(m *Mains, take common.Taker) bool {
	name, _ := take()
	up, hasUp := takeInteger(take)
	phase, hasPhase := takeInteger(take)
	factors, even := takeFactors(take)
	m.Nodes = append(m.Nodes, Node{Name: name, Up: up, Phase: phase, Factors: factors})
	return name != "" && hasUp && hasPhase && even
}

func readLoad(m *Mains, take common.Taker) bool {
	node, ok := takeInteger(take)
	state, _ := take()
	factors, even := takeFactors(take)
	m.Loads = append(m.Loads, Load{Node: node, State: state, Factors: factors})
	return ok && state != "" && even
}

// takeInteger takes a word that is an integer; a word that is missing is none.
func takeInteger(take common.Taker) (int, bool) {
	word, _ := take()
	return common.Integer(word)
}

// takeFactors takes all words that are left, and reports whether they are an even number of integers.
func takeFactors(take common.Taker) ([]api.Gauss, bool) {
	numbers, ok := common.Integers(take)
	if !ok || len(numbers)%2 != 0 {
		return nil, false
	}
	var out []api.Gauss
	for pair := range slices.Chunk(numbers, 2) {
		out = append(out, api.Gauss{Re: pair[0], Im: pair[1]})
	}
	return out, true
}
