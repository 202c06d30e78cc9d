package link_test

import (
	"fmt"

	"kilovar/api"
	"kilovar/link"
)

// A message is cut and sent in two rounds of which the first one loses a frame; then stations take the slots of a cycle.
func Example() {
	queue, e := link.Cut(9, []byte{5, 6, 7}, 2)
	if e != api.OK {
		fmt.Println("error", e)
		return
	}
	s, r := link.Sender{Queue: queue, Window: 2}, link.Receiver{}
	s, r, _ = link.Exchanged(s, r, []link.Round{{Lost: []int{1}}})
	fmt.Println(s.Acked, r.Taken)
	s, r, _ = link.Exchanged(s, r, []link.Round{{Doubled: []int{0}}})
	message, _ := link.Joined(r.Frames)
	fmt.Println(s.Acked, r.Taken, message)

	stations := []link.Station{{Name: "x", Priority: 3, Frames: 2}, {Name: "y", Frames: 1}, {Name: "z", Priority: 1, Frames: 1}}
	bound, _ := link.Bound(len(stations))
	winners, _ := link.Access(stations, []bool{true, false, true}, 7)
	fmt.Println(bound, winners)

	text, _ := link.Print(queue)
	fmt.Print(text)
	// Output:
	// 1 1
	// 2 2 [5 6 7]
	// 6 [0 -1 0 2 -1 1 -1]
	// frame 9 0 2 5 6
	// frame 9 1 2 7
}
