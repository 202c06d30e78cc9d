package mesh_test

import (
	"fmt"
	"math/rand"
	"slices"

	"kilovar/mesh"
)

// What the chapter defines, computed in other ways than the package's.

func alike(a, b any) bool { return fmt.Sprint(a) == fmt.Sprint(b) }

// manyMeshes returns small and large meshes, with few and many links.
func manyMeshes() []mesh.Mesh {
	r := rand.New(rand.NewSource(3))
	var out []mesh.Mesh
	for range 150 {
		n := 1 + r.Intn(7)
		out = append(out, randomMesh(r, n, r.Intn(2*n)))
	}
	for range 30 {
		n := 1 + r.Intn(32)
		out = append(out, randomMesh(r, n, r.Intn(129)))
	}
	return append(out, shown(), line(32, 100))
}

// costs returns the cost of the link of two nodes, or false.
func costs(m mesh.Mesh, a, b int) (int, bool) {
	for _, l := range m.Links {
		if l.A == min(a, b) && l.B == max(a, b) && a != b {
			return l.Cost, true
		}
	}
	return 0, false
}

// distances returns the distances between all nodes, by way of one node more at a time.
func distances(m mesh.Mesh) [][]int {
	n := len(m.Nodes)
	var out [][]int
	for a := range n {
		out = append(out, repeated(-1, n))
		for b := range n {
			if cost, ok := costs(m, a, b); ok {
				out[a][b] = cost
			}
		}
		out[a][a] = 0
	}
	for by := range n {
		for a := range n {
			for b := range n {
				if out[a][by] >= 0 && out[by][b] >= 0 && (out[a][b] < 0 || out[a][by]+out[by][b] < out[a][b]) {
					out[a][b] = out[a][by] + out[by][b]
				}
			}
		}
	}
	return out
}

// roundByHand returns a state after a round: each node asks its neighbours in their order.
func roundByHand(m mesh.Mesh, s mesh.State, lost [][2]int) mesh.State {
	out := mesh.State{Coordinator: s.Coordinator, Number: s.Number}
	for node, own := range s.Entries {
		for other, x := range s.Entries {
			cost, ok := costs(m, node, other)
			if !ok || slices.Contains(lost, [2]int{node, other}) || x.Next == -1 || x.Distance+cost > 3200 || node == s.Coordinator {
				continue
			}
			if x.Number > own.Number || x.Number == own.Number && x.Distance+cost < own.Distance {
				own = entry(x.Number, x.Distance+cost, other)
			}
		}
		out.Entries = append(out.Entries, own)
	}
	return out
}

// routeByHand returns the route of a node, or nothing; a way of more nodes than there are is a loop.
func routeByHand(s mesh.State, node int) []int {
	var out []int
	for range s.Entries {
		out = append(out, node)
		if node == s.Coordinator {
			return out
		}
		if node = s.Entries[node].Next; node == -1 {
			return nil
		}
	}
	panic("a loop")
}

// floodedByHand returns the rounds in which nodes get a message, each of which sends it as soon as it has it.
func floodedByHand(m mesh.Mesh, from int, lost [][2]int) []int {
	out := repeated(-1, len(m.Nodes))
	out[from] = 0
	senders := []int{from}
	for len(senders) > 0 {
		sender := senders[0]
		senders = senders[1:]
		for node := range m.Nodes {
			if _, ok := costs(m, node, sender); ok && out[node] < 0 && !slices.Contains(lost, [2]int{node, sender}) {
				out[node] = out[sender] + 1
				senders = append(senders, node)
			}
		}
	}
	return out
}
