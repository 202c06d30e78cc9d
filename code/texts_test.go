package code_test

import (
	"strings"
	"testing"

	"kilovar/api"
	"kilovar/code"
)

// P3.4

func TestTexts(t *testing.T) {
	for _, x := range []struct {
		c    code.Code
		l    []int
		text string
	}{
		{small(), ints(10, 5, 1, 0), "word 4 2 10 5 1 0\n"},
		{of(2, 1), ints(3, 4), "word 2 1 3 4\n"}, // the list may be no word
		{of(16, 8), repeated(16, 16), "word 16 8" + strings.Repeat(" 16", 16) + "\n"},
		{of(3, 2), ints(0, 0, 0), "word 3 2 0 0 0\n"},
	} {
		text, e := code.Print(x.c, x.l)
		same(t, "Print", all(text, e), all(x.text, api.OK))
		c, l, e := code.Parse(x.text)
		same(t, "Parse", all(c, l, e), all(x.c, x.l, api.OK))
	}
	for _, x := range listErrors {
		text, e := code.Print(x.c, x.l)
		same(t, "Print with errors", all(text, e), all("", x.e))
	}
}

func checkParsed(t *testing.T, want api.Errno, texts ...string) {
	t.Helper()
	for _, text := range texts {
		c, l, e := code.Parse(text)
		same(t, "Parse of "+text, all(c, l, e), all(code.Code{}, ints(), want))
	}
}

func TestParseOfWrongForms(t *testing.T) {
	checkParsed(t, api.ErrSyntax,
		"", "\n", " ", " \n", "word", "word\n", "word \n", "word 2\n", "word 2 \n", "word  2 1\n", "2 1 3 4\n",
		"word 2 1 3 4", "word 2 1 3 4\n\n", "\nword 2 1 3 4\n", "word 2 1 3 4\nword 2 1 3 4\n", "word 2 1 3 4\nx", "word 2 1 3\n4\n", "word 2 1\n3 4\n", "word\n2 1 3 4\n", "word 2 1 3 4\n ",
		"words 2 1 3 4\n", "Word 2 1 3 4\n", "wor 2 1 3 4\n", " word 2 1 3 4\n", "word word 2 1 3 4\n", "list 2 1 3 4\n", "word2 1 3 4\n",
		"word 2 1 3 4 \n", "word 2 1  3 4\n", "word 2 1 3  4\n", "word\t2 1 3 4\n", "word 2 1 3\t4\n", "word 2 1 3 4\r\n", "word 2\u00a01 3 4\n",
		"word 02 1 3 4\n", "word 2 01 3 4\n", "word 2 1 03 4\n", "word 2 1 3 04\n", "word 2 1 00 4\n", "word 2 1 3 000\n",
		"word -2 1 3 4\n", "word 2 -1 3 4\n", "word 2 1 -3 4\n", "word 2 1 3 -4\n", "word 2 1 -0 4\n", "word 2 1 - 4\n", "word +2 1 3 4\n", "word 2 1 3 +4\n",
		"word 1000000000 1 3 4\n", "word 2 1000000000 3 4\n", "word 2 1 3 1000000000\n", "word 2 1 3 18446744073709551619\n",
		"word x 1 3 4\n", "word 2 x 3 4\n", "word 2 1 3 x\n", "word 2 1 3 4 x\n", "word 2 1 3 4.0\n", "word 2 1 3 4e0\n", "word 2 1 0x3 4\n", "word 2 1 3 1_0\n", "word 2 1 3 \u0664\n", "word 2 1 3 \xff\n", "word 2 1 3 4\x00\n",
		"word 17 0 99 x\n", "word 0\n",
	)
}

func TestParseOfWrongLists(t *testing.T) {
	checkParsed(t, api.ErrRange, "word 0 0\n", "word 1 1 3\n", "word 17 1 3\n", "word 2 0 3 4\n", "word 16 9 3\n", "word 999999999 1 3 4\n", "word 2 999999999 99 4\n", "word 2 1 3 17\n", "word 2 1 17 4\n", "word 2 1 999999999 4\n")
	checkParsed(t, api.ErrOrder, "word 2 2 3 4\n", "word 2 3\n", "word 8 8 99\n")
	checkParsed(t, api.ErrShape, "word 2 1\n", "word 2 1 3\n", "word 2 1 3 4 5\n", "word 2 1 17\n", "word 2 1 3 4 17\n")
}

func TestParseOfLongTexts(t *testing.T) {
	text := "word 16 1" + strings.Repeat(" 3", 2043) + "\n"
	same(t, "the length", len(text), 4096)
	checkParsed(t, api.ErrShape, text)
	checkParsed(t, api.ErrSyntax, strings.Repeat("x", 4096), strings.Repeat("\n", 4096))
	checkParsed(t, api.ErrLong, "word 2 1"+strings.Repeat(" 3", 2044)+"\n", strings.Repeat("x", 4097), strings.Repeat("\n", 4097), text+text)
}
