package credit_test

import (
	"strconv"
	"strings"
	"testing"

	"kilovar/api"
	"kilovar/credit"
)

// P8.5

const (
	head    = "account 1000 500 40 2000\n"
	keyLine = "key 1 2 3 4 5 6 7 8\n"
	newLine = "new 9 0 0 0 0 0 0 0\n"
	text    = head + keyLine + newLine + "used 3\nused 7\n"
)

// usedLines returns lines for numbers.
func usedLines(numbers []int) string {
	out := ""
	for _, n := range numbers {
		out += "used " + strconv.Itoa(n) + "\n"
	}
	return out
}

func TestTexts(t *testing.T) {
	most := credit.Account{Balance: -1000000000000, Debt: 1000000000000, Share: 100, Emergency: 100000000, Key: api.Key{255, 255, 255, 255, 255, 255, 255, 255}, New: api.Key{255, 255, 255, 255, 255, 255, 255, 254}, Changing: true}
	for i := range 256 {
		most.Used = append(most.Used, 999999744+i)
	}
	for s, a := range map[string]credit.Account{
		head + keyLine:                                         account(),
		head + keyLine + newLine:                               changing(),
		head + keyLine + "used 3\nused 7\n":                    account(3, 7),
		head + keyLine + "used 999999999\n":                    account(999999999),
		text:                                                   with(account(3, 7), func(a *credit.Account) { a.New, a.Changing = other(), true }),
		head + keyLine + "new 0 0 0 0 0 0 0 0\n":               with(account(), func(a *credit.Account) { a.Changing = true }),
		"account 0 0 0 0\nkey 0 0 0 0 0 0 0 0\n":               {},
		"account 1000000000000 0 0 0\nkey 0 255 0 0 0 0 0 0\n": {Balance: 1000000000000, Key: api.Key{1: 255}},
		"account -1 0 0 0\nkey 0 0 0 0 0 0 0 10\n":             {Balance: -1, Key: api.Key{7: 10}},
		"account -1000000000000 1000000000000 100 100000000\nkey 255 255 255 255 255 255 255 255\nnew 255 255 255 255 255 255 255 254\n" + usedLines(most.Used): most,
		head + keyLine + usedLines(upTo(256)): account(upTo(256)...),
	} {
		got, e := credit.Print(a)
		same(t, "Print", all(got, e), all(s, api.OK))
		parsed, i, e := credit.Parse(s)
		same(t, "Parse", all(parsed, i, e), all(a, 0, api.OK))
	}
}

func checkParsed(t *testing.T, index int, want api.Errno, texts ...string) {
	t.Helper()
	for _, s := range texts {
		a, i, e := credit.Parse(s)
		same(t, "Parse of "+s, all(a, i, e), all(credit.Account{}, index, want))
	}
}

func TestParseOfTooFewLines(t *testing.T) {
	checkParsed(t, 0, api.ErrSyntax, "", "\n", " ", "x", "account", "account\n", strings.TrimSuffix(head, "\n"), keyLine, newLine, "used 3\n", keyLine+head)
	checkParsed(t, 1, api.ErrSyntax, head, "account 1000000000001 0 0 0\n", head+strings.TrimSuffix(keyLine, "\n"), head+newLine, head+"used 3\n", head+"used 3\n"+keyLine, head+head+keyLine, head+"\n")
}

// withLine returns the text with another line at an index.
func withLine(index int, line string) string {
	lines := strings.SplitAfter(text, "\n")
	lines[index] = line
	return strings.Join(lines, "")
}

// TestParseOfWrongWords has lines with words that are no integers, or too many or too few of them.
func TestParseOfWrongWords(t *testing.T) {
	lines := strings.SplitAfter(text, "\n")
	for i, line := range lines[:len(lines)-1] {
		line = strings.TrimSuffix(line, "\n")
		words := strings.Split(line, " ")
		for at := range words[1:] {
			for _, number := range []string{"", "x", "00", "01", "-0", "-01", "+1", "--1", "-", "1.0", "0x1", "1_0", "\u0661", "\xff", "10000000000000", "-10000000000000", "18446744073709551616", "\t1", "1\t", "1\r"} {
				changed := append([]string{}, words...)
				changed[1+at] = number
				s := withLine(i, strings.Join(changed, " ")+"\n")
				checkParsed(t, i, api.ErrSyntax, s, s+"x\n", s+"\n")
			}
		}
		fewer := strings.Join(words[:len(words)-1], " ")
		numbers := strings.Join(words[1:], " ")
		for _, wrong := range []string{"", " ", " " + line, line + " ", line + " 0", line + " 0 0", line + " x", fewer, words[0], words[0] + "  " + numbers, strings.ToUpper(words[0]) + " " + numbers, words[0] + "\t" + numbers, "x " + numbers, numbers, line + "\r", "\t" + line, words[0] + numbers} {
			checkParsed(t, i, api.ErrSyntax, withLine(i, wrong+"\n"), withLine(i, wrong+"\n")+"x")
		}
	}
}

func TestParseOfLinesWithoutEnd(t *testing.T) {
	lines := strings.SplitAfter(text, "\n")
	for i := range len(lines) - 1 {
		before := strings.Join(lines[:i], "")
		checkParsed(t, i, api.ErrSyntax, before+strings.TrimSuffix(lines[i], "\n"), before+" ", before+"x")
	}
	checkParsed(t, 5, api.ErrSyntax, text+"x", text+"\n", text+" ", text+"used 9")
}

// TestParseInOrder has lines where they may not stand, behind what is wrong in another way, too.
func TestParseInOrder(t *testing.T) {
	checkParsed(t, 2, api.ErrSyntax, head+keyLine+head, head+keyLine+keyLine, "account 0 -1 0 0\nkey 0 0 0 0 0 0 0 256\nx\n")
	checkParsed(t, 3, api.ErrSyntax, head+keyLine+"used 3\n"+newLine, head+keyLine+newLine+newLine, head+keyLine+newLine+head, head+keyLine+newLine+keyLine, head+keyLine+"used 0\n"+head, head+keyLine+"used 3\n"+keyLine)
	checkParsed(t, 5, api.ErrSyntax, text+newLine, text+keyLine, text+head, text+"\n")
}

// TestParseOfWrongAccounts has texts whose lines have their forms.
func TestParseOfWrongAccounts(t *testing.T) {
	for at := range 8 {
		for _, number := range []string{"-1", "256", "9999999999999", "-9999999999999", "257", "65536", "4294967296"} {
			words := strings.Fields("0 0 0 0 0 0 0 0")
			words[at] = number
			numbers := strings.Join(words, " ") + "\n"
			checkParsed(t, 2, api.ErrRange, head+"key "+numbers)
			checkParsed(t, 3, api.ErrRange, head+keyLine+"new "+numbers)
			checkParsed(t, 4, api.ErrRange, head+"key "+numbers+"used 5\nused 5\n", head+keyLine+"new "+numbers+"used 0\n")
		}
	}
	for _, numbers := range []string{"1000000000001 0 0 0", "-1000000000001 0 0 0", "9999999999999 0 0 0", "-9999999999999 0 0 0", "0 -1 0 0", "0 1000000000001 0 0", "0 0 -1 0", "0 0 101 0", "0 0 0 -1", "0 0 0 100000001"} {
		checkParsed(t, 2, api.ErrRange, "account "+numbers+"\n"+keyLine)
		checkParsed(t, 4, api.ErrRange, "account "+numbers+"\n"+keyLine+"used 5\nused 5\n")
	}
	checkParsed(t, 3, api.ErrRange, head+keyLine+"used 0\n", head+keyLine+"used -1\n", head+keyLine+"used 1000000000\n", head+keyLine+"used 9999999999999\n")
	checkParsed(t, 4, api.ErrOrder, head+keyLine+"used 7\nused 3\n", head+keyLine+"used 7\nused 7\n")
	checkParsed(t, 4, api.ErrRange, head+keyLine+"used 7\nused 0\n")
	checkParsed(t, 259, api.ErrMany, head+keyLine+usedLines(upTo(257)), head+keyLine+strings.Repeat("used 0\n", 257))
	checkParsed(t, 259, api.ErrRange, head+"key 1 2 3 4 5 6 7 -8\n"+usedLines(upTo(257)))
}

func TestParseOfLongTexts(t *testing.T) {
	checkParsed(t, 5, api.ErrSyntax, text+strings.Repeat("x", 4096-len(text)))
	checkParsed(t, 0, api.ErrSyntax, strings.Repeat("x", 4096), strings.Repeat("\n", 4096))
	checkParsed(t, 0, api.ErrLong, text+strings.Repeat("x", 4097-len(text)), strings.Repeat("x", 4097), strings.Repeat("\n", 4097), head+keyLine+strings.Repeat("used 1\n", 1000))
}
