package mesh

import (
	"slices"

	"kilovar/api"
	"kilovar/common"
)

// never is the round in which a node gets a message that does not come to it.
const never = -1

// flooded returns the rounds in which the nodes get a message first.
func flooded(m Mesh, from int, lost [][2]int) []int {
	rounds := slices.Repeat([]int{never}, len(m.Nodes))
	rounds[from] = 0
	for before := range len(m.Nodes) {
		for pair := range hops(m) {
			if rounds[pair[1]] == before && rounds[pair[0]] == never && !slices.Contains(lost, pair) {
				rounds[pair[0]] = before + 1
			}
		}
	}
	return rounds
}

// Flooded returns when the nodes get a message, and how many send it.
func Flooded(m Mesh, from int, lost [][2]int) ([]int, int, api.Errno) {
	if e := common.First(checkNodeOf(m, from), checkPairs(m, lost)); e != api.OK {
		return nil, 0, e
	}
	rounds := flooded(m, from, lost)
	return rounds, len(reached(m, rounds)), api.OK
}

// Reached returns the nodes to which there is a route.
func Reached(m Mesh, from int) ([]int, api.Errno) {
	if e := checkNodeOf(m, from); e != api.OK {
		return nil, e
	}
	return reached(m, flooded(m, from, nil)), api.OK
}

// reached returns the nodes that get a message, each of which sends it once.
func reached(m Mesh, rounds []int) []int {
	return which(m, func(node int) bool { return rounds[node] != never })
}

// Barrier returns a barrier between two nodes.
func Barrier(m Mesh, from, to int) ([]int, api.Errno) {
	if e := checkEnds(m, from, to); e != api.OK {
		return nil, e
	}
	set := reached(m, flooded(m, from, nil))
	if slices.Contains(set, to) {
		return nil, api.ErrRule
	}
	return set, api.OK
}

// CheckBarrier returns OK if a set is a barrier between two nodes.
func CheckBarrier(m Mesh, from, to int, set []int) api.Errno {
	e := common.First(checkEnds(m, from, to), common.AtMost(set, MaxNodes, common.Ascending(len(m.Nodes))))
	if e != api.OK {
		return e
	}
	return common.FailIf(!slices.Contains(set, from) || slices.Contains(set, to) || isLeft(m, set), api.ErrProof)
}

// isLeft reports whether a link leads out of a set.
func isLeft(m Mesh, set []int) bool {
	for pair := range hops(m) {
		if slices.Contains(set, pair[0]) && !slices.Contains(set, pair[1]) {
			return true
		}
	}
	return false
}
