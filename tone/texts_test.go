package tone_test

import (
	"strings"
	"testing"

	"kilovar/api"
	"kilovar/tone"
)

// P2.5

const streetText = "mains 1 0 1\nnode t 0 0\nnode a 0 1 1 1\nnode b 1 1 2 0\nnode c 0 2 1 -1\nload 1 on 1 2\n"

func TestPrint(t *testing.T) {
	text, e := tone.Print(street("on"))
	same(t, "Print", all(text, e), all(streetText, api.OK))
	m := tone.Mains{Carriers: 2, Cross: factors(to(-2, 0), to(0, -1)), Nodes: []tone.Node{{Name: "a_1"}, {Name: "B", Phase: 3, Factors: factors(to(1, 2), to(-1, -2))}}}
	text, e = tone.Print(m)
	same(t, "Print of two carriers", all(text, e), all("mains 2 -2 0 0 -1\nnode a_1 0 0\nnode B 0 3 1 2 -1 -2\n", api.OK))
	m.Loads = []tone.Load{{State: "may", Factors: factors(to(1, 0), to(0, 1))}, {Node: 1, State: "off", Factors: factors(to(2, 2), to(1, 1))}}
	text, e = tone.Print(m)
	same(t, "Print of two loads", all(text, e), all("mains 2 -2 0 0 -1\nnode a_1 0 0\nnode B 0 3 1 2 -1 -2\nload 0 may 1 0 0 1\nload 1 off 2 2 1 1\n", api.OK))
	m.Cross = nil
	text, e = tone.Print(m)
	same(t, "Print with errors", all(text, e), all("", api.ErrShape))
}

func TestParse(t *testing.T) {
	m, i, e := tone.Parse(streetText)
	same(t, "Parse", all(m, i, e), all(street("on"), 0, api.OK))
	m, i, e = tone.Parse("mains 2 -2 0 0 -1\nnode a_1 0 0\nnode B 0 3 1 2 -1 -2\nload 0 may 1 0 0 1\nload 1 off 2 2 1 1\n")
	want := tone.Mains{Carriers: 2, Cross: factors(to(-2, 0), to(0, -1)), Nodes: []tone.Node{{Name: "a_1"}, {Name: "B", Phase: 3, Factors: factors(to(1, 2), to(-1, -2))}}, Loads: []tone.Load{{State: "may", Factors: factors(to(1, 0), to(0, 1))}, {Node: 1, State: "off", Factors: factors(to(2, 2), to(1, 1))}}}
	same(t, "Parse of two carriers", all(m, i, e), all(want, 0, api.OK))
}

// parseCase is a text with the index and the error of its first wrong line.
type parseCase struct {
	text string
	i    int
	e    api.Errno
}

func checkParseCases(t *testing.T, cases []parseCase) {
	t.Helper()
	for _, x := range cases {
		m, i, e := tone.Parse(x.text)
		same(t, "Parse of "+x.text, all(m, i, e), all(tone.Mains{}, x.i, x.e))
	}
}

func TestParseOfFirstLines(t *testing.T) {
	checkParseCases(t, []parseCase{
		{"", 0, api.ErrSyntax}, {"\n", 0, api.ErrSyntax}, {" ", 0, api.ErrSyntax}, {"mains", 0, api.ErrSyntax},
		{"mains\n", 0, api.ErrSyntax}, {"mains \n", 0, api.ErrSyntax}, {"mains 1 0 1", 0, api.ErrSyntax}, {"mains 1 0\n", 0, api.ErrSyntax}, {"mains 1 0 1 1\n", 0, api.ErrSyntax},
		{" mains 1 0 1\n", 0, api.ErrSyntax}, {"mains  1 0 1\n", 0, api.ErrSyntax}, {"mains 1 0 1 \n", 0, api.ErrSyntax}, {"mains 1 0  1\n", 0, api.ErrSyntax},
		{"mains 1 0 1\r\n", 0, api.ErrSyntax}, {"mains\t1 0 1\n", 0, api.ErrSyntax}, {"Mains 1 0 1\n", 0, api.ErrSyntax}, {"mains x 0 1\n", 0, api.ErrSyntax},
		{"mains 01 0 1\n", 0, api.ErrSyntax}, {"mains 1 -0 1\n", 0, api.ErrSyntax}, {"mains 1 00 1\n", 0, api.ErrSyntax}, {"mains +1 0 1\n", 0, api.ErrSyntax}, {"mains 1 0 -\n", 0, api.ErrSyntax},
		{"mains 1 0 1.0\n", 0, api.ErrSyntax}, {"mains 1000000000 0 1\n", 0, api.ErrSyntax}, {"mains 1 0 -1000000000\n", 0, api.ErrSyntax}, {"mains 1 0 x\n", 0, api.ErrSyntax}, {"mains 1 x 0\n", 0, api.ErrSyntax},
		{"node t 0 0\n", 0, api.ErrSyntax}, {"load 0 on 1 1\n", 0, api.ErrSyntax}, {"frame 1 0 1\n", 0, api.ErrSyntax}, {"1 0 1\n", 0, api.ErrSyntax},
		{"mains 1 0 1\n", 1, api.ErrEmpty}, {"mains 1\n", 1, api.ErrShape}, {"mains 1 0 1 0 1\n", 1, api.ErrShape}, {"mains 0\n", 1, api.ErrRange}, {"mains -1\n", 1, api.ErrRange},
		{"mains 999999999 0 1\n", 1, api.ErrRange}, {"mains 1 0 -999999999\n", 1, api.ErrRange}, {"mains 1 0 0\n", 1, api.ErrZero},
		{"mains 1 0 1\n\n", 1, api.ErrSyntax}, {"\nmains 1 0 1\n", 0, api.ErrSyntax}, {"mains 1 0 1\nmains 1 0 1\n", 1, api.ErrSyntax},
	})
}

func TestParseOfNodes(t *testing.T) {
	const head = "mains 1 0 1\n"
	checkParseCases(t, []parseCase{
		{head + "node t 0 0", 1, api.ErrSyntax}, {head + "node\n", 1, api.ErrSyntax}, {head + "node t\n", 1, api.ErrSyntax}, {head + "node t 0\n", 1, api.ErrSyntax}, {head + "node t 0 0 1\n", 1, api.ErrSyntax},
		{head + "node t 0 x\n", 1, api.ErrSyntax}, {head + "node t x 0\n", 1, api.ErrSyntax}, {head + "node  0 0\n", 1, api.ErrSyntax}, {head + "node t  0 0\n", 1, api.ErrSyntax}, {head + "node t 0 0 \n", 1, api.ErrSyntax},
		{head + "node t -0 0\n", 1, api.ErrSyntax}, {head + "node t 00 0\n", 1, api.ErrSyntax}, {head + "node 0 0\n", 1, api.ErrSyntax}, {head + "node t 0 0 1 1 1\n", 1, api.ErrSyntax}, {head + "node t 0 0 1 x\n", 1, api.ErrSyntax},
		{head + "node t u 0 0\n", 1, api.ErrSyntax}, {head + "node\tt 0 0\n", 1, api.ErrSyntax}, {head + "node t 0 0\n ", 2, api.ErrSyntax}, {head + "node t 0 0\nx", 2, api.ErrSyntax},
		{head + "node 1 0 0\n", 2, api.ErrName}, {head + "node t\tu 0 0\n", 2, api.ErrName}, {head + "node \u00e4 0 0\n", 2, api.ErrName}, {head + "node \xff 0 0\n", 2, api.ErrName}, {head + "node node 0 0 1 1\n", 2, api.ErrRule},
		{head + "node t 0 1\n", 2, api.ErrRule}, {head + "node t -999999999 0\n", 2, api.ErrRule}, {head + "node t 0 0\nnode t 0 1 1 1\n", 3, api.ErrTwice}, {head + "node t 0 0\nnode a 0 1\n", 3, api.ErrShape}, {head + "node t 0 0\nnode a 0 1 1 3\n", 3, api.ErrRange},
		{head + "node t 0 0\nnode a 1 1 1 1\n", 3, api.ErrUnknown}, {head + "node t 0 0\nnode a 0 4 1 1\n", 3, api.ErrRange},
	})
}

func TestParseOfLoads(t *testing.T) {
	const head = "mains 1 0 1\nnode t 0 0\n"
	checkParseCases(t, []parseCase{
		{head + "load 0 on 1 2", 2, api.ErrSyntax}, {head + "load\n", 2, api.ErrSyntax}, {head + "load 0\n", 2, api.ErrSyntax}, {head + "load 0 \n", 2, api.ErrSyntax}, {head + "load 0  1 2\n", 2, api.ErrSyntax},
		{head + "load 0 on 1\n", 2, api.ErrSyntax}, {head + "load x on 1 2\n", 2, api.ErrSyntax}, {head + "load on 1 2\n", 2, api.ErrSyntax}, {head + "load 0 on 1 2 \n", 2, api.ErrSyntax}, {head + "load 0 on x 2\n", 2, api.ErrSyntax},
		{head + "load 0 on 1 2\nnode u 0 1 1 1\n", 3, api.ErrSyntax}, {head + "load 0 on 1 2\nmains 1 0 1\n", 3, api.ErrSyntax}, {"mains 1 0 1\nload 0 on 1 2\nnode t 0 0\n", 2, api.ErrSyntax},
		{head + "load 0 on 1 2\nload 0 out\nnode\n", 4, api.ErrSyntax},
		{head + "load 0 out 1 2\n", 3, api.ErrKind}, {head + "load 0 1 2 1\n", 3, api.ErrKind}, {head + "load 0 1 2 1 1\n", 2, api.ErrSyntax}, {head + "load 0 1 2 1 1 1\n", 3, api.ErrKind}, {head + "load 0 on\n", 3, api.ErrShape},
		{head + "load 1 on 1 2\n", 3, api.ErrUnknown}, {head + "load -1 on 1 2\n", 3, api.ErrUnknown}, {head + "load 0 on 0 0\n", 3, api.ErrZero}, {head + "load 0 on 1 2\nload 0 on 3 2\n", 4, api.ErrRange},
		{"mains 1 0 1\nload 0 on 1 2\n", 2, api.ErrEmpty},
	})
}

func TestParseOfLongTexts(t *testing.T) {
	head := "mains 1 0 1\nnode t 0 0\n" + strings.Repeat("load 0 on 1 2\n", 100)
	rest := 4096 - len(head) - len("load 0 on 1 2\n")
	text := head + "load 0 on" + strings.Repeat("x", rest) + " 1 2\n"
	same(t, "the length", len(text), 4096)
	checkParseCases(t, []parseCase{
		{text, 103, api.ErrMany},
		{text + "\n", 0, api.ErrLong},
		{strings.Repeat("x", 4096), 0, api.ErrSyntax},
		{strings.Repeat("\n", 4097), 0, api.ErrLong},
	})
}
