package tone

import (
	"strconv"
	"strings"

	"kilovar/api"
	"kilovar/common"
)

// The words with which lines begin.
const (
	mainsWord = "mains"
	nodeWord  = "node"
	loadWord  = "load"
)

// Print returns the text of mains.
func Print(m Mains) (string, api.Errno) {
	if e := CheckMains(m); e != api.OK {
		return "", e
	}
	text := lineOf(m.Cross, mainsWord, strconv.Itoa(m.Carriers))
	for _, n := range m.Nodes {
		text += lineOf(n.Factors, nodeWord, n.Name, strconv.Itoa(n.Up), strconv.Itoa(n.Phase))
	}
	for _, l := range m.Loads {
		text += lineOf(l.Factors, loadWord, strconv.Itoa(l.Node), l.State)
	}
	return text, api.OK
}

// lineOf returns the line with some words, and behind them the parts of factors.
func lineOf(factors []api.Gauss, words ...string) string {
	line := strings.Join(words, " ")
	for _, x := range factors {
		line += " " + strconv.Itoa(x.Re) + " " + strconv.Itoa(x.Im)
	}
	return line + "\n"
}

// Parse returns the mains with a text, or the index of the first line that is wrong.
func Parse(s string) (Mains, int, api.Errno) {
	if len(s) > api.MaxText {
		return Mains{}, 0, api.ErrLong
	}
	lines := common.Lines(s)
	m, at, ok := readMains(lines)
	if !ok {
		return Mains{}, at, api.ErrSyntax
	}
	if e := CheckMains(m); e != api.OK {
		return Mains{}, len(lines), e
	}
	return m, 0, api.OK
}

// lineForm is a form of lines: whether it may stand at an index, behind what was read so far, and how the words behind the first one are read.
type lineForm struct {
	stands func(index int, before Mains) bool
	read   func(m *Mains, take taker) bool
}

// taker takes the next word of a line, and reports whether there is one.
type taker func() (string, bool)

// lineForms returns the forms of lines by their first words.
func lineForms() map[string]lineForm {
	return map[string]lineForm{
		mainsWord: {
			stands: func(index int, before Mains) bool { return index == 0 },
			read:   readHead,
		},
		nodeWord: {
			stands: func(index int, before Mains) bool { return index > 0 && len(before.Loads) == 0 },
			read:   readNode,
		},
		loadWord: {
			stands: func(index int, before Mains) bool { return index > 0 },
			read:   readLoad,
		},
	}
}

// readMains returns what lines say, whatever it is worth; or the index of the first line that has not its form, and false.
func readMains(lines []string) (Mains, int, bool) {
	var m Mains
	forms := lineForms()
	for i, line := range lines {
		words, ended := common.WordsOf(line)
		take := words.Take
		word, _ := take()
		form, known := forms[word]
		ok := ended && known && form.stands(i, m)
		if ok {
			ok = form.read(&m, take)
		}
		if !ok {
			return Mains{}, i, false
		}
	}
	return m, 0, len(lines) > 0
}

func readHead(m *Mains, take taker) bool {
	carriers, ok := takeInteger(take)
	cross, even := takeFactors(take)
	m.Carriers, m.Cross = carriers, cross
	return ok && even
}

func readNode(m *Mains, take taker) bool {
	name, _ := take()
	up, hasUp := takeInteger(take)
	phase, hasPhase := takeInteger(take)
	factors, even := takeFactors(take)
	m.Nodes = append(m.Nodes, Node{Name: name, Up: up, Phase: phase, Factors: factors})
	return name != "" && hasUp && hasPhase && even
}

func readLoad(m *Mains, take taker) bool {
	node, ok := takeInteger(take)
	state, _ := take()
	factors, even := takeFactors(take)
	m.Loads = append(m.Loads, Load{Node: node, State: state, Factors: factors})
	return ok && state != "" && even
}

// takeInteger takes a word that is an integer; a word that is missing is none.
func takeInteger(take taker) (int, bool) {
	word, _ := take()
	return common.Integer(word)
}

// takeFactors takes all words that are left, and reports whether they are an even number of integers.
func takeFactors(take taker) ([]api.Gauss, bool) {
	var out []api.Gauss
	for word, more := take(); more; word, more = take() {
		re, ok := common.Integer(word)
		im, also := takeInteger(take)
		if !ok || !also {
			return nil, false
		}
		out = append(out, api.Gauss{Re: re, Im: im})
	}
	return out, true
}
