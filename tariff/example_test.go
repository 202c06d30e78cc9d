package tariff_test

import (
	"fmt"

	"kilovar/api"
	"kilovar/tariff"
)

// A calendar gets another version, a profile with a gap is estimated, billed and corrected, and a load finds its cheapest intervals.
func Example() {
	c, _, e := tariff.Parse("calendar 10\nversion 0 -10\nprices 100 50 200\ntype 0 1 21600 0 79200 1\ntype 0 1\nseason 0 0 0 0 0 0 1 1\nblock 10 20\n")
	if e != api.OK {
		fmt.Println("error", e)
		return
	}
	next := tariff.Tariff{Prices: []int{80}, Types: [][]tariff.Switch{{{}}}, Seasons: []tariff.Season{{}}}
	c, _ = tariff.Announced(c, 5, 20, next)
	rate, _ := tariff.RateAt(c, 20*tariff.Day)
	changes, _ := tariff.Changes(c, 0, tariff.Day)
	fmt.Println(rate, changes)

	p := tariff.Profile{Start: 18000, Step: 3600, Energies: []int{4, tariff.Missing, 3}}
	estimated, _ := tariff.Estimated(p, 13)
	bill, _ := tariff.Billed(c, estimated, 0)
	p.Energies[1] = 5
	correction, _ := tariff.Corrected(c, estimated, p, 0)
	lines, _ := tariff.Lines(c, p, 0)
	mean, _ := tariff.Mean(c, p, 0)
	fmt.Println(estimated.Energies, bill, correction, lines, mean)

	l := tariff.Load{From: 18000, To: 36000, Step: 3600, Runs: 2, Starts: 1, Energy: 3}
	runs, cost, _ := tariff.Cheapest(c, l)
	bound, _ := tariff.Bound(c, l, 100)
	fmt.Println(runs, cost, bound)
	// Output:
	// {1 0 80} [21600 79200]
	// [4 6 3] {13 1160 13} -120 [{0 0 8 840} {0 1 4 200}] {260 3}
	// [0 1] 450 450
}
