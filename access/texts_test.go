package access_test

import (
	"strings"
	"testing"

	"kilovar/access"
	"kilovar/api"
)

// P9.4: texts

const (
	head = "object m1 grid\n"
	text = head + "grant grid shop read m1 10 20\ngrant shop desk read m1 15 30\ngrant grid desk read m1 18 25\n"
)

// longest returns a book of objects and grants with the longest lines, and its text.
func longest(objects, grants int) (access.Book, string) {
	var b access.Book
	var text strings.Builder
	long := func(name string) string { return name + strings.Repeat("_", 24-len(name)) }
	for _, name := range names(objects) {
		b.Objects = append(b.Objects, object(long(name), long("o")))
		text.WriteString("object " + long(name) + " " + long("o") + "\n")
	}
	for range grants {
		g := other(grant(long("a"), long("b"), 99999, 100000), long("r"), b.Objects[objects-1].Name)
		b.Grants = append(b.Grants, g)
		text.WriteString("grant " + g.From + " " + g.To + " " + g.Right + " " + g.Object + " 99999 100000\n")
	}
	return b, text.String()
}

func TestTexts(t *testing.T) {
	long, longText := longest(16, 26)
	words := access.Book{Objects: []access.Object{object("object", "grant"), object("grant", "object")}, Grants: []access.Grant{other(grant("grant", "object", 0, 1), "grant", "object")}}
	for s, b := range map[string]access.Book{
		text: shown(), head: bookOf(), "": {}, longText: long,
		"object object grant\nobject grant object\ngrant grant object grant object 0 1\n": words,
		head + "grant A_9 b cut m1 0 100000\n":                                            bookOf(other(grant("A_9", "b", 0, 100000), "cut", "m1")),
		"object a b\nobject b a\n":                                                        {Objects: []access.Object{object("a", "b"), object("b", "a")}},
		head + strings.Repeat("grant a b read m1 0 1\n", 32):                              bookOf(repeated(grant("a", "b", 0, 1), 32)...),
	} {
		got, e := access.Print(b)
		same(t, "Print", all(got, e), all(s, api.OK))
		parsed, i, e := access.Parse(s)
		same(t, "Parse", all(parsed, i, e), all(b, 0, api.OK))
	}
}

func checkParsed(t *testing.T, index int, want api.Errno, texts ...string) {
	t.Helper()
	for _, s := range texts {
		b, i, e := access.Parse(s)
		same(t, "Parse of "+s, all(b, i, e), all(access.Book{}, index, want))
	}
}

// withLine returns the text with another line at an index.
func withLine(index int, line string) string {
	lines := strings.SplitAfter(text, "\n")
	lines[index] = line
	return strings.Join(lines, "")
}

// TestParseOfWrongLines has lines that have no form.
func TestParseOfWrongLines(t *testing.T) {
	for _, line := range []string{
		"", " ", "a", "m1 grid", "objects m1 grid", "Object m1 grid", "objec m1 grid", "objectm1 grid", " object m1 grid", "object\tm1 grid", "object m1\tgrid", "book m1 grid", "grants a b read m1 0 1", "Grant a b read m1 0 1", "granta b read m1 0 1", " grant a b read m1 0 1", "grant\ta b read m1 0 1",
		"object", "object ", "object  ", "object m1", "object m1 ", "object  grid", "object m1 grid ", "object m1 grid x", "object m1 grid 1", "object m1  grid", "object  m1 grid", "object object m1 grid",
		"grant", "grant ", "grant a", "grant a b", "grant a b read", "grant a b read m1", "grant a b read m1 0", "grant a b read m1 0 ", "grant a b read m1 0 1 ", "grant a b read m1 0 1 2", "grant a b read m1 0 1 x", "grant  b read m1 0 1", "grant a  read m1 0 1", "grant a b  m1 0 1", "grant a b read  0 1", "grant a b read m1  1", "grant  a b read m1 0 1", "grant a b read m1 0  1", "grant b read m1 0 1", "grant a b c read m1 0 1", "grant a b read m1 0 1\r", "grant grant a b read m1 0 1",
	} {
		checkParsed(t, 0, api.ErrSyntax, line+"\n", line+"\n"+text, line+"\nx")
		checkParsed(t, 1, api.ErrSyntax, head+line+"\n", "object 1 -\n"+line+"\n"+text)
		checkParsed(t, 4, api.ErrSyntax, text+line+"\n", text+line+"\nx\n")
	}
}

// TestParseOfWrongIntegers has days that are no integers.
func TestParseOfWrongIntegers(t *testing.T) {
	for _, number := range []string{"", "x", "00", "01", "020", "-0", "-1", "+1", "-", "1.0", "0x1", "1_0", "1e3", "\u0661", "\xff", "1000000000", "0000000001", "18446744073709551616", "\t1", "1\t", "1\r", "m1"} {
		for _, line := range []string{"grant a b read m1 " + number + " 100000\n", "grant a b read m1 0 " + number + "\n"} {
			checkParsed(t, 1, api.ErrSyntax, head+line, head+line+"x\n", withLine(1, line))
			checkParsed(t, 3, api.ErrSyntax, withLine(3, line))
		}
	}
}

func TestParseOfObjectsBehindGrants(t *testing.T) {
	checkParsed(t, 4, api.ErrSyntax, text+"object m2 grid\n", text+head, text+"object 1 1\nx\n")
	checkParsed(t, 1, api.ErrSyntax, "grant a b read m1 0 1\nobject m1 grid\n", "grant 1 1 1 1 5 5\nobject m1 grid\nx")
	checkParsed(t, 2, api.ErrSyntax, head+"grant a a read m1 0 1\n"+head+"grant a b read m1 0 1\n")
}

func TestParseOfLinesWithoutEnd(t *testing.T) {
	lines := strings.SplitAfter(text, "\n")
	for i := range len(lines) - 1 {
		before := strings.Join(lines[:i], "")
		checkParsed(t, i, api.ErrSyntax, before+strings.TrimSuffix(lines[i], "\n"), before+" ", before+"x", before+"\n", before+"\n"+lines[i])
	}
	checkParsed(t, 4, api.ErrSyntax, text+"x", text+"\n", text+" ", text+"grant grid desk read m1 18 25")
}

// TestParseOfWrongBooks has texts whose lines have their forms.
func TestParseOfWrongBooks(t *testing.T) {
	for _, name := range []string{"9", "_", "1a", "a-b", "a\t", "a\r", "\t", "\xff", "\u00e4", "\u00a0", "-1", strings.Repeat("a", 25)} {
		checkParsed(t, 1, api.ErrName, "object "+name+" grid\n", "object m1 "+name+"\n")
		checkParsed(t, 4, api.ErrName, withLine(2, "grant "+name+" a read m1 0 1\n"), withLine(2, "grant a "+name+" read m1 0 1\n"), withLine(2, "grant a b "+name+" m1 0 1\n"), withLine(2, "grant a b read "+name+" 0 1\n"), withLine(0, "object "+name+" grid\n"))
	}
	checkParsed(t, 2, api.ErrTwice, head+head, head+"object m1 shop\n")
	checkParsed(t, 3, api.ErrTwice, head+head+"grant 1 1 1 1 1 1\n")
	checkParsed(t, 1, api.ErrUnknown, "grant grid shop read m1 10 20\n")
	checkParsed(t, 4, api.ErrUnknown, withLine(2, "grant shop desk read m2 15 30\n"), withLine(0, "object m2 grid\n"))
	checkParsed(t, 4, api.ErrConflict, withLine(2, "grant desk desk read m2 15 15\n"))
	checkParsed(t, 2, api.ErrSpan, head+"grant grid shop read m1 20 10\n", head+"grant grid shop read m1 5 5\n", head+"grant grid shop read m1 0 100001\n", head+"grant grid shop read m1 0 999999999\n", head+"grant grid shop read m1 999999999 0\n", head+"grant grid shop read m1 0 0\n")
	checkParsed(t, 17, api.ErrMany, strings.Repeat(head, 17), strings.Repeat("object 1 1\n", 17))
	checkParsed(t, 34, api.ErrMany, head+strings.Repeat("grant a b read m1 0 1\n", 33), head+strings.Repeat("grant 1 1 1 1 1 1\n", 33))
	checkParsed(t, 16, api.ErrTwice, strings.Repeat(head, 16))
}

func TestParseOfLongTexts(t *testing.T) {
	checkParsed(t, 4, api.ErrSyntax, text+strings.Repeat("x", 4096-len(text)))
	checkParsed(t, 0, api.ErrSyntax, strings.Repeat("x", 4096), strings.Repeat("\n", 4096))
	checkParsed(t, 0, api.ErrLong, text+strings.Repeat("x", 4097-len(text)), strings.Repeat("x", 4097), strings.Repeat("\n", 4097), strings.Repeat(text, 100), string(make([]byte, 100000)))
	checkParsed(t, 1, api.ErrName, "object a "+strings.Repeat("b", 4086)+"\n")
	checkParsed(t, 0, api.ErrLong, "object a "+strings.Repeat("b", 4087)+"\n")
}

// TestPrintOfALongText prints a book whose text cannot be parsed any more.
func TestPrintOfALongText(t *testing.T) {
	b, s := longest(16, 32)
	got, e := access.Print(b)
	same(t, "Print", all(got, len(got) > 4096, e), all(s, true, api.OK))
	checkParsed(t, 0, api.ErrLong, s)
}
