package mesh_test

import (
	"fmt"

	"kilovar/api"
	"kilovar/mesh"
)

// A mesh is routed, loses a link, and is routed again after a beacon; what no route leads to is proved by a barrier.
func Example() {
	m, _, e := mesh.Parse("node c\nnode a\nnode b\nnode d\nnode e\nlink 0 1 4\nlink 0 2 1\nlink 1 2 2\nlink 1 3 5\n")
	if e != api.OK {
		fmt.Println("error", e)
		return
	}
	s, _ := mesh.Begun(m, 0)
	s, rounds, _ := mesh.Rounds(m, s)
	route, _ := mesh.Route(m, s, 3)
	cost, _ := mesh.Cost(m, route)
	fmt.Println(rounds, route, cost)

	m, s, _ = mesh.Broken(m, s, 2)
	routed, _ := mesh.Routed(m, s)
	fmt.Println(routed)
	s, _ = mesh.Beaconed(m, s)
	s, rounds, _ = mesh.Rounds(m, s)
	routed, _ = mesh.Routed(m, s)
	fmt.Println(rounds, routed)

	barrier, _ := mesh.Barrier(m, 0, 4)
	fmt.Println(barrier, mesh.CheckBarrier(m, 0, 4, barrier) == api.OK)
	// Output:
	// 3 [3 1 2 0] 8
	// [0 2]
	// 2 [0 1 2 3]
	// [0 1 2 3] true
}
