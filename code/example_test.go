package code_test

import (
	"fmt"

	"kilovar/api"
	"kilovar/code"
)

// Two words are spread, a burst hits one symbol of each, and both are decoded.
func Example() {
	c := code.Code{Length: 4, Checks: 2}
	first, e := code.Encode(c, []int{1, 0})
	if e != api.OK {
		fmt.Println("error", e)
		return
	}
	second, _ := code.Encode(c, []int{0, 1})
	sent, _ := code.Spread([][]int{first, second})
	safe, _ := code.Survives(c, 2, 2, false)
	fmt.Println(sent, safe)

	sent[3], sent[4] = 16, 16 // the burst
	rows, _ := code.Gathered(sent, 2)
	for _, row := range rows {
		word, places, _ := code.Decode(c, row, nil)
		message, _ := code.Message(c, word)
		fmt.Println(row, word, places, message)
	}

	decisions := []code.Decision{{Symbol: 10, Trust: 1}, {Symbol: 5, Trust: 1}, {Symbol: 1, Trust: 1}, {Symbol: 7, Trust: 0.5}}
	nearest, cost, _ := code.Nearest(c, decisions)
	other, _ := code.Second(c, decisions)
	fmt.Println(nearest, cost, other)
	// Output:
	// [10 1 5 2 1 0 0 1] true
	// [10 5 16 0] [10 5 1 0] [2] [1 0]
	// [1 16 0 1] [1 2 0 1] [1] [0 1]
	// [10 5 1 0] 8 32
}
