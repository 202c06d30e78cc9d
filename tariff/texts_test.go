package tariff_test

import (
	"strings"
	"testing"

	"kilovar/api"
	"kilovar/tariff"
)

// P7.5

const (
	head     = "calendar 10\n"
	text     = head + oldText + youngOne
	oldText  = "version 0 -10\nprices 100 50 200\ntype 0 1 21600 0 79200 1\ntype 0 1\nseason 0 0 0 0 0 0 1 1\nblock 10 20\n"
	youngOne = "version 20 5\nprices 80\ntype 0 0\nseason 0 0 0 0 0 0 0 0\n"
)

func TestTexts(t *testing.T) {
	for s, c := range map[string]tariff.Calendar{
		text:           book(),
		head + oldText: alone(old()),
		"calendar 0\nversion 100000 -364\nprices 100000\ntype 0 0 86399 0\nseason 0 0 0 0 0 0 0 0\nseason 363 0 0 0 0 0 0 0\nblock 1 -100000\nblock 100000000 100000\n": calendar(0, version(100000, -364, tariff.Tariff{
			Prices: ints(100000), Types: [][]tariff.Switch{switches(0, 0, 86399, 0)}, Seasons: []tariff.Season{{}, {From: 363}}, Blocks: []tariff.Block{{From: 1, Add: -100000}, {From: 100000000, Add: 100000}},
		})),
		"calendar 364\nversion 0 -364\nprices 0 0 0 0 0 0 0 0\ntype 0 7\ntype 0 6\nseason 0 1 0 1 0 1 0 1\n": calendar(364, version(0, -364, tariff.Tariff{
			Prices: repeated(0, 8), Types: [][]tariff.Switch{switches(0, 7), switches(0, 6)}, Seasons: []tariff.Season{{Week: [7]int{1, 0, 1, 0, 1, 0, 1}}},
		})),
	} {
		got, e := tariff.Print(c)
		same(t, "Print", all(got, e), all(s, api.OK))
		parsed, i, e := tariff.Parse(s)
		same(t, "Parse", all(parsed, i, e), all(c, 0, api.OK))
	}
}

func checkParsed(t *testing.T, index int, want api.Errno, texts ...string) {
	t.Helper()
	for _, s := range texts {
		c, i, e := tariff.Parse(s)
		same(t, "Parse of "+s, all(c, i, e), all(tariff.Calendar{}, index, want))
	}
}

func TestParseOfNoVersions(t *testing.T) {
	checkParsed(t, 0, api.ErrSyntax, "", "\n", "calendar 10", "calendar", "calendar\n", "x\n", " ")
	checkParsed(t, 1, api.ErrEmpty, "calendar 10\n", "calendar 0\n", "calendar 364\n")
	checkParsed(t, 1, api.ErrRange, "calendar -1\n", "calendar 365\n", "calendar 999999999\n", "calendar -999999999\n")
	checkParsed(t, 2, api.ErrSyntax, head+"version 0 -10\n", "calendar 365\nversion 0 -10\n")
	checkParsed(t, 12, api.ErrSyntax, text+"version 30 10\n", text+"version 0 0\n", "calendar 365\n"+oldText+youngOne+"version 30 10\n")
	checkParsed(t, 1, api.ErrSyntax, head+"version 0 -10") // it has no line feed
}

// withLine returns the text of the calendar C with another line at an index.
func withLine(index int, line string) string {
	lines := strings.SplitAfter(text, "\n")
	lines[index] = line
	return strings.Join(lines, "")
}

// TestParseOfWrongWords has lines with words that are no integers, or too many or too few of them.
func TestParseOfWrongWords(t *testing.T) {
	lines := strings.SplitAfter(text, "\n")
	for i, line := range lines[:len(lines)-1] {
		line = strings.TrimSuffix(line, "\n")
		words := strings.Split(line, " ")
		word, numbers := words[0], strings.Join(words[1:], " ")
		rest := strings.Join(append([]string{""}, words[2:]...), " ") // all but the first number
		for _, number := range []string{"", "x", "00", "01", "-0", "-01", "+1", "--1", "-", "1.0", "0x1", "1_0", "\u0661", "\xff", "1000000000", "-1000000000", "18446744073709551616", "\t1", "1\t", "1\r"} {
			s := withLine(i, word+" "+number+rest+"\n")
			checkParsed(t, i, api.ErrSyntax, s, s+"x\n", s+"\n")
		}
		for _, wrong := range []string{"", " ", " " + line, line + " ", word + "  " + numbers, strings.ToUpper(word) + " " + numbers, word + "\t" + numbers, "x " + numbers, numbers, line + "\r", "\t" + line, word + numbers} {
			checkParsed(t, i, api.ErrSyntax, withLine(i, wrong+"\n"), withLine(i, wrong+"\n")+"x")
		}
		if word != "prices" {
			checkParsed(t, i, api.ErrSyntax, withLine(i, line+" 0\n"))
		}
		if word != "prices" && word != "type" {
			checkParsed(t, i, api.ErrSyntax, withLine(i, word+rest+"\n"), withLine(i, word+"\n"), withLine(i, line+" 0 0\n"))
		}
		if word == "type" {
			checkParsed(t, i, api.ErrSyntax, withLine(i, word+rest+"\n"), withLine(i, word+" 0\n"), withLine(i, word+" 0 0 0\n"))
		}
	}
}

func TestParseOfLinesWithoutEnd(t *testing.T) {
	lines := strings.SplitAfter(text, "\n")
	for i := range len(lines) - 1 {
		before := strings.Join(lines[:i], "")
		checkParsed(t, i, api.ErrSyntax, before+strings.TrimSuffix(lines[i], "\n"), before+" ", before+"x")
	}
	checkParsed(t, 11, api.ErrSyntax, text+"x", text+"\n", text+" ", text+"block 5 5")
}

// TestParseInOrder puts a line of each kind behind a line of each kind.
func TestParseInOrder(t *testing.T) {
	lines := map[string]string{"calendar": "calendar 10\n", "version": "version 900 900\n", "prices": "prices 1\n", "type": "type 0 0\n", "season": "season 0 0 0 0 0 0 0 0\n", "block": "block 900 1\n"}
	texts := map[string]string{"calendar": head, "version": head + "version 0 -10\n", "prices": head + "version 0 -10\nprices 1\n", "type": head + "version 0 -10\nprices 1\ntype 0 0\n"}
	texts["season"] = texts["type"] + lines["season"]
	texts["block"] = texts["season"] + "block 10 20\n"
	may := map[string]string{"calendar": "version", "version": "prices", "prices": "version type season block", "type": "version type season block", "season": "version season block", "block": "version block"}
	for last, before := range texts {
		n := strings.Count(before, "\n")
		for word, line := range lines {
			_, i, e := tariff.Parse(before + line)
			if strings.Contains(" "+may[last]+" ", " "+word+" ") {
				same(t, "Parse of "+before+line+": the line is wrong", i == n, false)
				continue
			}
			same(t, "Parse of "+before+line, all(i, e), all(n, api.ErrSyntax))
		}
	}
	checkParsed(t, 0, api.ErrSyntax, "version 0 -10\nprices 1\n", oldText, "prices 1\n", "type 0 0\n", "season 0 0 0 0 0 0 0 0\n", "block 1 1\n")
	checkParsed(t, 2, api.ErrSyntax, head+"version 0 -10\nversion 20 5\nprices 1\n", head+"version 0 -10\ncalendar 10\n", head+"version 0 -10\n"+head)
}

// TestParseOfWrongCalendars has texts whose lines have their forms.
func TestParseOfWrongCalendars(t *testing.T) {
	checkParsed(t, 3, api.ErrEmpty, head+"version 0 -10\nprices\n", head+"version 0 -10\nprices 1\n")
	checkParsed(t, 4, api.ErrEmpty, head+"version 0 -10\nprices 1\ntype 0 0\n", head+"version 0 -10\nprices 1\ntype\n", head+"version 0 -10\nprices 1\nseason 0 0 0 0 0 0 0 0\n", head+"version 0 -10\nprices 1\nblock 5 5\n")
	checkParsed(t, 11, api.ErrOld, withLine(7, "version 20 11\n"), withLine(0, "calendar 11\n"))
	checkParsed(t, 11, api.ErrOrder, withLine(7, "version 0 5\n"), withLine(3, "type 0 1 0 0 79200 1\n"), withLine(4, "type 7 1\n"), withLine(5, "season 7 0 0 0 0 0 1 1\n"))
	checkParsed(t, 11, api.ErrUnknown, withLine(2, "prices 100\n"), withLine(5, "season 0 0 0 0 0 0 2 1\n"), withLine(5, "season 0 0 0 0 0 0 -1 1\n"), withLine(4, "type 0 3\n"))
	checkParsed(t, 11, api.ErrRange, withLine(2, "prices 100 50 100001\n"), withLine(2, "prices 100 -50 7\n"), withLine(6, "block 0 20\n"), withLine(6, "block 10 100001\n"), withLine(1, "version -1 -10\n"), withLine(1, "version 0 -365\n"), withLine(0, "calendar 999999999\n"), withLine(3, "type 0 1 86400 0\n"))
	checkParsed(t, 11, api.ErrMany, withLine(2, "prices"+strings.Repeat(" 0", 9)+"\n"), withLine(4, "type"+strings.Repeat(" 0 1", 13)+"\n"))
	checkParsed(t, 10, api.ErrEmpty, strings.Replace(text, "type 0 0\n", "", 1))
	checkParsed(t, 28, api.ErrMany, head+strings.Repeat("version 0 -10\nprices\nblock 0 0\n", 9))
}

func TestParseOfLongTexts(t *testing.T) {
	long := strings.Repeat("x", 4096-len(text))
	checkParsed(t, 11, api.ErrSyntax, text+long)
	checkParsed(t, 0, api.ErrSyntax, strings.Repeat("x", 4096), strings.Repeat("\n", 4096))
	checkParsed(t, 0, api.ErrLong, text+long+"x", strings.Repeat("x", 4097), strings.Repeat("\n", 4097), strings.Repeat(text, 100))
}

// TestPrintOfALongText prints a calendar whose text cannot be parsed any more.
func TestPrintOfALongText(t *testing.T) {
	c := long()
	s, e := tariff.Print(c)
	same(t, "Print", all(len(s) > 4096, strings.Count(s, "version"), e), all(true, 8, api.OK))
	checkParsed(t, 0, api.ErrLong, s)
}

// long returns the calendar with as much as there may be of all.
func long() tariff.Calendar {
	x := tariff.Tariff{Prices: repeated(100000, 8)}
	var l []tariff.Switch
	for i := range 12 {
		l = append(l, tariff.Switch{At: 7200 * i, Rate: 7})
	}
	x.Types = repeated(l, 8)
	for i := range 8 {
		x.Seasons = append(x.Seasons, tariff.Season{From: 45 * i, Week: [7]int{7, 6, 5, 4, 3, 2, 1}})
	}
	for i := range 4 {
		x.Blocks = append(x.Blocks, tariff.Block{From: 25000000 * (i + 1), Add: -100000})
	}
	c := calendar(364)
	for i := range 8 {
		c.Versions = append(c.Versions, version(10000+i, 9000+i, x))
	}
	return c
}
