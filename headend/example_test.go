package headend_test

import (
	"fmt"

	"kilovar/api"
	"kilovar/headend"
)

// A reading is missing and comes late, a crash tears a record, two offices cut a meter, and tries are planned.
func Example() {
	s := headend.New()
	for _, line := range []string{"office a 0", "office b 0", "meter m 0", "due r m 1 20", "route m 2 3", "try r 3", "done r 4 1000000", "miss r 21 40", "done r 22 45"} {
		if _, e := s.Do(line); e != api.OK {
			fmt.Println(line, "is refused:", e == api.ErrRange)
		}
	}
	state, _ := s.Do("state r")
	counts, _ := headend.Counts(s.Events())
	fmt.Println(state, counts)

	log := s.Log()
	again, e := headend.Open(log[:len(log)-5])
	fmt.Println(e == api.OK, len(again.Events()))
	again.Do("arm a m 290")
	again.Do("order b m 295")
	held, _ := headend.Barrier(again.Events(), "m", 299)
	fmt.Println(held)
	cut, _ := again.Do("cut m 300")
	dark, _ := again.Do("dark")
	fmt.Println(cut, dark)

	jobs := []headend.Job{{Name: "x", Hops: 3, Value: 5}, {Name: "y", Deadline: 1, Hops: 3, Value: 4}, {Name: "z", Deadline: 1, Hops: 2, Value: 3}}
	plan, most, _ := headend.Plan(jobs, []int{4, 4})
	bound, _ := headend.Bound(jobs, []int{4, 4}, []int{1, 1})
	fmt.Println(plan, most, bound)
	// Output:
	// done r 4 1000000 is refused: true
	// late 45 [0 0 0 1]
	// true 7
	// [quiet]
	// done 10 m
	// [0 1 -1] 9 12
}
