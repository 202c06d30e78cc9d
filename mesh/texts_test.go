package mesh_test

import (
	"strings"
	"testing"

	"kilovar/api"
	"kilovar/mesh"
)

// P5.5

const shownText = "node c\nnode a\nnode b\nnode d\nnode e\nlink 0 1 4\nlink 0 2 1\nlink 1 2 2\nlink 1 3 5\n"

func TestTexts(t *testing.T) {
	long := mesh.Mesh{Nodes: []string{"abcdefghijklmnopqrstuvwx", "A_9"}, Links: []mesh.Link{joins(0, 1, 100)}}
	late := mesh.Mesh{Nodes: names(32), Links: []mesh.Link{joins(30, 31, 100), joins(9, 10, 1)}}
	for _, x := range []struct {
		m    mesh.Mesh
		text string
	}{
		{mesh.Mesh{}, ""}, {shown(), shownText}, {mesh.Mesh{Nodes: []string{"node"}}, "node node\n"}, {mesh.Mesh{Nodes: []string{"link", "b"}, Links: []mesh.Link{joins(0, 1, 9)}}, "node link\nnode b\nlink 0 1 9\n"},
		{long, "node abcdefghijklmnopqrstuvwx\nnode A_9\nlink 0 1 100\n"}, {late, "node " + strings.Join(names(32), "\nnode ") + "\nlink 30 31 100\nlink 9 10 1\n"},
	} {
		text, e := mesh.Print(x.m)
		same(t, "Print", all(text, e), all(x.text, api.OK))
		m, i, e := mesh.Parse(x.text)
		same(t, "Parse", all(m, i, e), all(x.m, 0, api.OK))
	}
	for _, x := range meshErrors() {
		text, e := mesh.Print(x.m)
		same(t, "Print with errors", all(text, e), all("", x.e))
	}
}

func checkParsed(t *testing.T, index int, want api.Errno, texts ...string) {
	t.Helper()
	for _, text := range texts {
		m, i, e := mesh.Parse(text)
		same(t, "Parse of "+text, all(m, i, e), all(mesh.Mesh{}, index, want))
	}
}

func TestParseOfWrongLines(t *testing.T) {
	for _, line := range []string{
		"", " ", "a", "0 1 4", "nodes a", "Node a", "nod a", "nodea", "links 0 1 4", "Link 0 1 4", "link0 1 4", "mesh a", " node a", " link 0 1 4", "node\ta",
		"node", "node ", "node  ", "node  a", "node a ", "node a b", "node a b c", "node a 1", "node node a",
		"link", "link ", "link 0", "link 0 1", "link 0 1 ", "link 0 1 4 ", "link 0 1 4 5", "link  0 1 4", "link 0  1 4", "link 0 1  4", "link 0 1 4\r", "link 0\t1 4", "link link 0 1 4", "link a 0 1 4", "link 0 1 4 a", "link 0\u00a01 4",
		"link 00 1 4", "link 0 01 4", "link 0 1 04", "link -0 1 4", "link -1 1 4", "link 0 -1 4", "link 0 1 -4", "link +0 1 4", "link 0 1 +4", "link 0 1 -", "link x 1 4", "link 0 x 4", "link 0 1 x", "link 0 1 4.0", "link 0 1 0x4", "link 0 1 1_0", "link 0 1 \u0664", "link 0 1 \xff",
		"link 1000000000 1 4", "link 0 1000000000 4", "link 0 1 1000000000", "link 0 1 18446744073709551620", "link 0 1 4\x00",
	} {
		checkParsed(t, 0, api.ErrSyntax, line+"\n", line+"\nnode a\n", line+"\nx\n")
		checkParsed(t, 1, api.ErrSyntax, "node a\n"+line+"\n", "node 1\n"+line+"\nnode a\n", "link 0 0 0\n"+line+"\nx\n")
		checkParsed(t, 3, api.ErrSyntax, "node a\nnode b\nlink 0 1 4\n"+line+"\n")
	}
}

func TestParseOfNodesBehindLinks(t *testing.T) {
	checkParsed(t, 1, api.ErrSyntax, "link 0 1 4\nnode a\n", "link 9 9 999\nnode a\nnode 1\n")
	checkParsed(t, 3, api.ErrSyntax, "node a\nnode b\nlink 0 1 4\nnode c\n", "node a\nnode a\nlink 5 4 0\nnode c\nx\n")
	checkParsed(t, 4, api.ErrSyntax, "node a\nnode b\nlink 0 1 4\nlink 0 1 4\nnode c\nlink 0 1 4\n")
}

func TestParseOfLinesWithoutEnd(t *testing.T) {
	checkParsed(t, 0, api.ErrSyntax, "node a", "node 1", "link 0 1 4", "x", " ", "\n", "\n\n", "\nnode a\n")
	checkParsed(t, 1, api.ErrSyntax, "node a\nnode b", "node a\n ", "node a\n\n", "node 1\nx", "node a\n\nnode b\n")
	checkParsed(t, 9, api.ErrSyntax, shownText+"link 0 3 1", shownText+"\n", shownText+" ")
	checkParsed(t, 8, api.ErrSyntax, strings.TrimSuffix(shownText, "\n"))
}

func TestParseOfWrongMeshes(t *testing.T) {
	checkParsed(t, 1, api.ErrName, "node 1\n", "node \xff\n", "node \u00e4\n", "node a\t\n", "node a\r\n", "node abcdefghijklmnopqrstuvwxy\n")
	checkParsed(t, 2, api.ErrTwice, "node a\nnode a\n")
	checkParsed(t, 3, api.ErrName, "node a\nnode -\nnode a\n", "node _\nnode a\nlink 5 5 0\n")
	checkParsed(t, 1, api.ErrUnknown, "link 0 1 4\n")
	checkParsed(t, 3, api.ErrUnknown, "node a\nnode b\nlink 0 2 4\n", "node a\nnode b\nlink 999999999 0 0\n")
	checkParsed(t, 3, api.ErrOrder, "node a\nnode b\nlink 1 0 4\n", "node a\nnode b\nlink 1 1 0\n")
	checkParsed(t, 4, api.ErrTwice, "node a\nnode b\nlink 0 1 4\nlink 0 1 0\n")
	checkParsed(t, 4, api.ErrRange, "node a\nnode b\nlink 0 1 0\nlink 0 1 4\n", "node a\nnode b\nlink 0 1 101\nlink 1 0 4\n", "node a\nnode b\nlink 0 1 999999999\nlink 1 0 4\n")
	checkParsed(t, 33, api.ErrMany, strings.Repeat("node a\n", 33), strings.Repeat("node 1\n", 33))
	checkParsed(t, 131, api.ErrMany, "node a\nnode b\n"+strings.Repeat("link 0 1 4\n", 129), "node a\nnode b\n"+strings.Repeat("link 1 0 4\n", 129))
	checkParsed(t, 130, api.ErrTwice, "node a\nnode b\n"+strings.Repeat("link 0 1 4\n", 128))
}

func TestParseOfLongTexts(t *testing.T) {
	text := strings.Repeat("node a\n", 585)
	same(t, "the length", len(text), 4095)
	checkParsed(t, 585, api.ErrMany, text)
	checkParsed(t, 585, api.ErrSyntax, text+"x", text+"\n")
	checkParsed(t, 0, api.ErrLong, text+"x\n", strings.Repeat("x", 4097), strings.Repeat("\n", 4097), string(make([]byte, 100000)))
	checkParsed(t, 0, api.ErrSyntax, strings.Repeat("x", 4096), strings.Repeat("\n", 4096))
	checkParsed(t, 1, api.ErrName, "node "+strings.Repeat("a", 4090)+"\n")
	checkParsed(t, 0, api.ErrLong, "node "+strings.Repeat("a", 4091)+"\n")
}

// TestTheLongestText has as many nodes and links as there may be, with the longest lines.
func TestTheLongestText(t *testing.T) {
	m := mesh.Mesh{Links: links(128)}
	for _, name := range names(32) {
		m.Nodes = append(m.Nodes, name+strings.Repeat("_", 24-len(name)))
	}
	text, e := mesh.Print(m)
	same(t, "Print: error", e, api.OK)
	got, i, e := mesh.Parse(text)
	same(t, "Parse", all(got, i, e), all(m, 0, api.OK))
}
