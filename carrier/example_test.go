package carrier_test

import (
	"fmt"

	"kilovar/api"
	"kilovar/carrier"
)

// A telegram is encoded, its frame is found again in a stream with other bytes, and the first bytes of the frame are sent as phases.
func Example() {
	key := api.Key{1, 2, 3}
	frame, e := carrier.Encode(key, carrier.Telegram{Station: 258, Counter: 7, Kind: 3})
	if e != api.OK {
		fmt.Println("error", e)
		return
	}
	telegrams, skipped, _ := carrier.Received(key, append([]byte{7, 105}, frame[:]...))
	fmt.Println(telegrams[0].Station, telegrams[0].Counter, skipped)

	bits, _ := carrier.Bits(frame[:2])
	phases, _ := carrier.Phases(bits)
	samples, _ := carrier.Modulated(16, phases)
	heard, doubtful, _ := carrier.Demodulated(samples)
	fmt.Println(phases, heard, doubtful)
	// Output:
	// 258 7 [{0 2}]
	// [1 3 3 1 0 0 0 1] [1 3 3 1 0 0 0 1] []
}
