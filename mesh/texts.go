package mesh

import (
	"slices"
	"strings"

	"kilovar/api"
	"kilovar/common"
)

// The words with which lines begin.
const (
	nodeWord = "node"
	linkWord = "link"
)

// number is one of the numbers in the line of a link.
type number struct {
	of func(l *Link) *int
}

// numbers returns the numbers in the line of a link, in their order.
func numbers() [3]number {
	return [3]number{
		{of: func(l *Link) *int { return &l.A }},
		{of: func(l *Link) *int { return &l.B }},
		{of: func(l *Link) *int { return &l.Cost }},
	}
}

// Print returns the string of a mesh.
func Print(m Mesh) (string, api.Errno) {
	if e := CheckMesh(m); e != api.OK {
		return "", e
	}
	nodes := common.Mapped(m.Nodes, func(name string) string { return nodeWord + " " + name + "\n" })
	return strings.Join(slices.Concat(nodes, common.Mapped(m.Links, linkLine)), ""), api.OK
}

func linkLine(l Link) string {
	var out []int
	for _, n := range numbers() {
		out = append(out, *n.of(&l))
	}
	return common.Line(linkWord, out...)
}

// Parse returns the mesh of a string, and the index of the first line that is wrong.
func Parse(s string) (Mesh, int, api.Errno) {
	return common.Parsed(s, lineForms(), CheckMesh)
}

// lineForms returns the forms of lines by their first words.
func lineForms() map[string]common.LineForm[Mesh] {
	return map[string]common.LineForm[Mesh]{
		nodeWord: {
			Stands: func(index int, before Mesh) bool { return len(before.Links) == 0 },
			Read:   readNode,
		},
		linkWord: {
			Stands: func(index int, before Mesh) bool { return true },
			Read:   readLink,
		},
	}
}

func readNode(m *Mesh, take common.Taker) bool {
	name, _ := take()
	m.Nodes = append(m.Nodes, name)
	return name != ""
}

func readLink(m *Mesh, take common.Taker) bool {
	var l Link
	for _, n := range numbers() {
		word, _ := take()
		x, ok := common.Natural(word)
		if !ok {
			return false
		}
		*n.of(&l) = x
	}
	m.Links = append(m.Links, l)
	return true
}
