package access_test

import (
	"fmt"

	"kilovar/access"
	"kilovar/api"
)

// An office shows by which grants it may read, sums are told of enough houses, a program is received and taken back, and loads take turns.
func Example() {
	b, _, e := access.Parse("object m1 grid\ngrant grid shop read m1 10 20\ngrant shop desk read m1 15 30\ngrant grid desk read m1 18 25\n")
	if e != api.OK {
		fmt.Println("error", e)
		return
	}
	chain, _ := access.Why(b, "desk", "read", "m1", 16)
	days, _ := access.Days(b, "desk", "read", "m1")
	_, none := access.Why(b, "desk", "read", "m1", 26)
	fmt.Println(chain, access.CheckWhy(b, "desk", "read", "m1", 16, chain) == api.OK, days, none == api.ErrNone)

	first, _ := access.Permitted(3, 2, nil, []int{0, 1})
	near, _ := access.Permitted(3, 2, [][]int{{0, 1}}, []int{0, 1, 2})
	known, _ := access.Known(2, access.MaxUse, []access.Answer{{Set: []int{0, 1}, Sum: 12}})
	lost, _ := access.Balance(api.Interval{Low: 100, High: 110}, []api.Interval{{Low: 40, High: 42}, {Low: 50, High: 51}})
	fmt.Println(first, near, known, lost)

	s, _ := access.Begun(access.Store{Running: 4}, 5, 2, 14)
	s, _ = access.Received(s, 1, []byte{3})
	_, short := access.Checked(s)
	s, _ = access.Received(s, 0, []byte{1, 2})
	s, _ = access.Checked(s)
	s, _ = access.Tried(s)
	back, _ := access.Back(s)
	fmt.Println(short == api.ErrShort, s.Running, s.Trial, back.Running, back.Trial)

	turns, _ := access.Turns([]access.Load{{Name: "a", Power: 6}, {Name: "b", Power: 5}, {Name: "c", Power: 4}}, 10, 3)
	fmt.Println(turns)
	// Output:
	// [0 1] true [{15 25}] true
	// true false [{5 7} {5 7}] {7 20}
	// true 5 true 4 false
	// [[0 2] [1 2] [0 2]]
}
