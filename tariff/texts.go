package tariff

import (
	"slices"
	"strings"

	"kilovar/api"
	"kilovar/common"
)

// The words with which lines begin.
const (
	calendarWord = "calendar"
	versionWord  = "version"
	pricesWord   = "prices"
	typeWord     = "type"
	seasonWord   = "season"
	blockWord    = "block"
)

// Print returns the text of a calendar.
func Print(c Calendar) (string, api.Errno) {
	if e := CheckCalendar(c); e != api.OK {
		return "", e
	}
	text := common.Line(calendarWord, c.Notice)
	for _, v := range c.Versions {
		text += common.Line(versionWord, v.From, v.Announced) + textOf(v.Tariff)
	}
	return text, api.OK
}

// textOf returns the lines of a tariff.
func textOf(t Tariff) string {
	return strings.Join(slices.Concat(
		[]string{common.Line(pricesWord, t.Prices...)},
		common.Mapped(t.Types, typeLine),
		common.Mapped(t.Seasons, func(s Season) string { return common.Line(seasonWord, append([]int{s.From}, s.Week[:]...)...) }),
		common.Mapped(t.Blocks, func(b Block) string { return common.Line(blockWord, b.From, b.Add) }),
	), "")
}

func typeLine(l []Switch) string {
	var numbers []int
	for _, s := range l {
		numbers = append(numbers, s.At, s.Rate)
	}
	return common.Line(typeWord, numbers...)
}

// kind is a kind of lines, or none. The kinds are in such an order that those behind which a line may stand follow each other.
type kind int

const (
	noKind kind = iota
	versionKind
	calendarKind
	pricesKind
	typeKind
	seasonKind
	blockKind
)

// form is a form of lines: its kind, the kinds from after to until behind which it may stand, and how its numbers are read.
type form struct {
	word  string
	kind  kind
	after kind
	until kind
	read  func(c *Calendar, numbers []int) bool
}

func forms() [6]form {
	return [6]form{
		{word: calendarWord, kind: calendarKind, after: noKind, until: noKind, read: readCalendar},
		{word: versionWord, kind: versionKind, after: calendarKind, until: blockKind, read: readVersion},
		{word: pricesWord, kind: pricesKind, after: versionKind, until: versionKind, read: readPrices},
		{word: typeWord, kind: typeKind, after: pricesKind, until: typeKind, read: readType},
		{word: seasonWord, kind: seasonKind, after: pricesKind, until: seasonKind, read: readSeason},
		{word: blockWord, kind: blockKind, after: pricesKind, until: blockKind, read: readBlock},
	}
}

func readCalendar(c *Calendar, numbers []int) bool {
	if len(numbers) != 1 {
		return false
	}
	c.Notice = numbers[0]
	return true
}

func readVersion(c *Calendar, numbers []int) bool {
	if len(numbers) != 2 {
		return false
	}
	c.Versions = append(c.Versions, Version{From: numbers[0], Announced: numbers[1]})
	return true
}

// lastTariff returns the tariff of the last version, to which lines are added.
func (c *Calendar) lastTariff() *Tariff {
	return &c.Versions[len(c.Versions)-1].Tariff
}

func readPrices(c *Calendar, numbers []int) bool {
	c.lastTariff().Prices = numbers
	return true
}

func readType(c *Calendar, numbers []int) bool {
	if len(numbers)%2 != 0 {
		return false
	}
	var l []Switch
	for pair := range slices.Chunk(numbers, 2) {
		l = append(l, Switch{At: pair[0], Rate: pair[1]})
	}
	t := c.lastTariff()
	t.Types = append(t.Types, l)
	return true
}

func readSeason(c *Calendar, numbers []int) bool {
	s := Season{}
	if len(numbers) != 1+len(s.Week) {
		return false
	}
	s.From = numbers[0]
	copy(s.Week[:], numbers[1:])
	t := c.lastTariff()
	t.Seasons = append(t.Seasons, s)
	return true
}

func readBlock(c *Calendar, numbers []int) bool {
	if len(numbers) != 2 {
		return false
	}
	t := c.lastTariff()
	t.Blocks = append(t.Blocks, Block{From: numbers[0], Add: numbers[1]})
	return true
}

// reading is what was read of a calendar, and the kind of the last line.
type reading struct {
	Calendar
	last kind
}

// check returns the error of what was read of a whole text, or OK.
func (x reading) check() api.Errno {
	return common.First(common.FailIf(x.last == noKind || x.last == versionKind, api.ErrSyntax), CheckCalendar(x.Calendar))
}

// Parse returns the calendar with a text, or the index of the first line that is wrong.
func Parse(s string) (Calendar, int, api.Errno) {
	x, i, e := common.Parsed(s, lineForms(), reading.check)
	return x.Calendar, i, e
}

// lineForms returns the forms of lines by their first words.
func lineForms() map[string]common.LineForm[reading] {
	out := map[string]common.LineForm[reading]{}
	for _, f := range forms() {
		out[f.word] = common.LineForm[reading]{
			Stands: func(index int, before reading) bool { return before.last >= f.after && before.last <= f.until },
			Read: func(x *reading, take common.Taker) bool {
				x.last = f.kind
				numbers, ok := common.Integers(take)
				return ok && f.read(&x.Calendar, numbers)
			},
		}
	}
	return out
}
