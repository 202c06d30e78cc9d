package meter_test

import (
	"fmt"

	"kilovar/api"
	"kilovar/meter"
)

// A cycle is counted a thousand times; entries are kept, sealed, and verified; a clock is slewed, and its intervals begin.
func Example() {
	var v, i []float32
	for range 1000 {
		v, i = append(v, 1, 0, -1, 0), append(i, 2, 1, 0, 0)
	}
	m, e := meter.Counted(meter.Meter{{Units: 999999, Rest: 999900}}, v, i)
	if e != api.OK {
		fmt.Println("error", e)
		return
	}
	text, _ := meter.Print(m)
	fmt.Print(text)

	p := meter.Profile{Room: 2}
	for n, units := range []int{4, 9, 2} {
		p, _ = meter.Stored(p, meter.Entry{Number: 7 + n, Tick: 10 + 10*n, Import: units})
	}
	most, first, _ := meter.Greatest(p, 1)
	fmt.Println(len(p.Entries), most, first)

	key := api.Key{1, 2, 3}
	seals, _ := meter.Sealed(key, p.Entries)
	p.Entries[1].Import = 1
	wrong, e := meter.Verified(key, p.Entries, seals)
	fmt.Println(wrong, e == api.ErrCheck)

	c, _ := meter.Slewed(meter.Clock{Offset: 5, Every: 2}, 100, -2, 10)
	ticks, _ := meter.Boundaries(c, api.Span{From: 100, To: 130}, 10)
	fmt.Println(ticks)
	// Output:
	// import 0 511900
	// export 0 0
	// q1 0 256000
	// q2 0 0
	// q3 0 0
	// q4 0 0
	// 2 9 8
	// 1 true
	// [105 116 127]
}
