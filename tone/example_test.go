package tone_test

import (
	"fmt"

	"kilovar/api"
	"kilovar/tone"
)

// The gain of a path is enclosed, a map is chosen under a budget, and two ends agree on it before bits are loaded on its carriers.
func Example() {
	m, _, e := tone.Parse("mains 1 0 1\nnode t 0 0\nnode a 0 1 1 1\nnode b 1 1 2 0\nnode c 0 2 1 -1\nload 1 may 1 2\n")
	if e != api.OK {
		fmt.Println("error", e)
		return
	}
	path, _ := tone.Path(m, 2, 3)
	squares, _ := tone.Enclosed(m, 2, 3, 0)
	fmt.Println(path, squares)

	t := tone.Tones{Signal: []int{100, 10, 0}, Noise: [][]int{{1, 1, 1}}, Margin: 10, Mask: 20}
	best, power, _ := tone.Best(t, 0, 10)
	bound, _ := tone.Bound(t, 0, 10, 400)
	fmt.Println(best, power, bound)

	s, _ := tone.Proposed(tone.Sender{Number: 4, Bits: []int{1, 1, 1}}, best)
	r, answer, _ := tone.Heard(tone.Receiver{Number: 4, Bits: []int{1, 1, 1}}, 5, s.Next)
	s, _ = tone.Confirmed(s, answer)
	levels, _ := tone.Loaded(s.Bits, []bool{true, false, true})
	_, bits, _ := tone.Taken(r, s.Number)
	data, _ := tone.Unloaded(bits, levels, 3)
	fmt.Println(levels, bits, data)
	// Output:
	// [2 1 0 3] {16 80}
	// [6 2 0] 10 8200
	// [[48 0 0]] [6 2 0] [true false true]
}
