package meter_test

import (
	"fmt"
	"math"
	"math/rand"
	"slices"
	"testing"

	"kilovar/api"
	"kilovar/meter"
)

// same compares results with the expected ones; nil and empty lists are equal, 0 and -0 are not.
func same(t *testing.T, what string, got, want any) {
	t.Helper()
	if g, w := fmt.Sprintf("%+v", got), fmt.Sprintf("%+v", want); g != w {
		t.Errorf("%s: got %s, want %s", what, g, w)
	}
}

// all returns all results of a call in one.
func all(results ...any) []any { return results }

// value returns a result whose error another test examines.
func value[T any](x T, _ api.Errno) T { return x }

func ints(l ...int) []int { return l }

func repeated[T any](x T, n int) []T {
	return slices.Repeat([]T{x}, n)
}

// four returns the samples with four integers.
func four(a, b, c, d int) [4]float32 {
	return [4]float32{float32(a) / 16, float32(b) / 16, float32(c) / 16, float32(d) / 16}
}

// list returns the samples of cycles, one after the other.
func list(cycles ...[4]float32) []float32 {
	var out []float32
	for _, c := range cycles {
		out = append(out, c[:]...)
	}
	return out
}

func opposite(l []float32) []float32 {
	var out []float32
	for _, x := range l {
		out = append(out, -x)
	}
	return out
}

func register(units, rest int) meter.Register {
	return meter.Register{Units: units, Rest: rest}
}

// fullMeter has the last units and rest in all registers.
func fullMeter() meter.Meter {
	last := register(999999, 999999)
	return meter.Meter{last, last, last, last, last, last}
}

func entry(number, tick, imported, exported, mark int) meter.Entry {
	return meter.Entry{Number: number, Tick: tick, Import: imported, Export: exported, Mark: mark}
}

func entries(l ...meter.Entry) []meter.Entry { return l }

// successive returns n entries from a number on, no two of which are the same but for the numbers.
func successive(first, n int) []meter.Entry {
	var out []meter.Entry
	for i := range n {
		out = append(out, entry(first+i, 10*first+7*i, 3*i, 999999-i, i%8))
	}
	return out
}

func profile(room int, l ...meter.Entry) meter.Profile {
	return meter.Profile{Room: room, Entries: l}
}

func clock(since, offset, left, every int) meter.Clock {
	return meter.Clock{Since: since, Offset: offset, Left: left, Every: every}
}

func span(from, to int) api.Span { return api.Span{From: from, To: to} }

// randomSamples returns n samples, of which many are 0.
func randomSamples(r *rand.Rand, n int) []float32 {
	var out []float32
	for range n {
		out = append(out, []float32{0, float32(r.Intn(5) - 2), float32(r.Intn(32769)-16384) / 16}[r.Intn(3)])
	}
	return out
}

func randomRegister(r *rand.Rand) meter.Register {
	if r.Intn(2) == 0 {
		return register(999999-r.Intn(2), 999999-r.Intn(1000))
	}
	return register(r.Intn(1000000), r.Intn(1000000))
}

func randomMeter(r *rand.Rand) meter.Meter {
	var m meter.Meter
	for i := range m {
		m[i] = randomRegister(r)
	}
	return m
}

func randomEntry(r *rand.Rand, number, tick int) meter.Entry {
	return entry(number, tick, r.Intn(1000000), r.Intn(1000000), r.Intn(8))
}

// randomEntries returns n entries that follow each other.
func randomEntries(r *rand.Rand, n int) []meter.Entry {
	number, tick := r.Intn(1000000000-n), r.Intn(1000)
	var out []meter.Entry
	for i := range n {
		out = append(out, randomEntry(r, number+i, tick))
		tick += 1 + r.Intn(1500000)
	}
	return out
}

func randomKey(r *rand.Rand) api.Key {
	var key api.Key
	for i := range key {
		key[i] = byte(r.Intn(256))
	}
	return key
}

// randomClock returns a clock that begins early, so that it can be read for a long time.
func randomClock(r *rand.Rand) meter.Clock {
	every := []int{2, 3, 2 + r.Intn(999)}[r.Intn(3)]
	return clock(r.Intn(1000), r.Intn(4001)-2000, []int{r.Intn(11) - 5, r.Intn(2001) - 1000}[r.Intn(2)], every)
}

// far are numbers beyond all limits.
func far() []int { return ints(math.MinInt, math.MaxInt, -1<<40, 1<<40) }

var (
	nan = float32(math.NaN())
	inf = float32(math.Inf(1))
)

// sampleErrors are numbers that are no samples, and their errors.
var sampleErrors = []struct {
	x float32
	e api.Errno
}{{nan, api.ErrForm}, {inf, api.ErrForm}, {-inf, api.ErrForm}, {1.0 / 32, api.ErrRange}, {-0.1, api.ErrRange}, {1024.0625, api.ErrRange}, {-1024.0625, api.ErrRange}, {1e38, api.ErrRange}}

// registerErrors are registers that are none.
var registerErrors = []meter.Register{{Units: -1}, {Units: 1000000}, {Units: math.MinInt}, {Units: math.MaxInt}, {Rest: -1}, {Rest: 1000000}, {Rest: math.MinInt}, {Rest: math.MaxInt}, {Units: 999999, Rest: 1000000}}

// entryErrors are entries that are none.
var entryErrors = []meter.Entry{
	entry(-1, 0, 0, 0, 0), entry(1000000000, 0, 0, 0, 0), entry(math.MinInt, 0, 0, 0, 0), entry(math.MaxInt, 0, 0, 0, 0),
	entry(0, -1, 0, 0, 0), entry(0, 100000001, 0, 0, 0), entry(0, math.MinInt, 0, 0, 0), entry(0, math.MaxInt, 0, 0, 0),
	entry(0, 0, -1, 0, 0), entry(0, 0, 1000000, 0, 0), entry(0, 0, math.MinInt, 0, 0), entry(0, 0, math.MaxInt, 0, 0),
	entry(0, 0, 0, -1, 0), entry(0, 0, 0, 1000000, 0), entry(0, 0, 0, math.MinInt, 0), entry(0, 0, 0, math.MaxInt, 0),
	entry(0, 0, 0, 0, -1), entry(0, 0, 0, 0, 8), entry(0, 0, 0, 0, math.MinInt), entry(0, 0, 0, 0, math.MaxInt),
}

// profileErrors are profiles that are none, and their errors.
func profileErrors() []struct {
	p meter.Profile
	e api.Errno
} {
	wrong := entry(7, 10, 1000000, 0, 0)
	return []struct {
		p meter.Profile
		e api.Errno
	}{
		{profile(0), api.ErrRange}, {profile(-1), api.ErrRange}, {profile(65), api.ErrRange}, {profile(math.MinInt), api.ErrRange}, {profile(math.MaxInt), api.ErrRange},
		{profile(0, successive(7, 1)...), api.ErrRange}, {profile(65, successive(7, 66)...), api.ErrRange}, {profile(-1, wrong, wrong), api.ErrRange},
		{profile(1, successive(7, 2)...), api.ErrMany}, {profile(64, successive(7, 65)...), api.ErrMany}, {profile(1, wrong, wrong), api.ErrMany}, {profile(2, repeated(wrong, 100000)...), api.ErrMany},
		{profile(2, wrong), api.ErrRange}, {profile(2, entry(7, 10, 0, 0, 0), entry(8, 20, 0, 0, 8)), api.ErrRange}, {profile(2, entry(7, 10, 0, 0, 0), wrong), api.ErrRange},
		{profile(2, entry(7, 10, 0, 0, 0), entry(9, 20, 0, 0, 0)), api.ErrOrder}, {profile(2, entry(7, 10, 0, 0, 0), entry(7, 20, 0, 0, 0)), api.ErrOrder}, {profile(2, entry(7, 10, 0, 0, 0), entry(6, 20, 0, 0, 0)), api.ErrOrder},
		{profile(2, entry(7, 10, 0, 0, 0), entry(8, 10, 0, 0, 0)), api.ErrOrder}, {profile(2, entry(7, 10, 0, 0, 0), entry(8, 9, 0, 0, 0)), api.ErrOrder}, {profile(2, repeated(entry(7, 10, 0, 0, 0), 2)...), api.ErrOrder},
		{profile(3, entry(7, 10, 0, 0, 0), entry(8, 20, 0, 0, 0), entry(9, 15, 0, 0, 0)), api.ErrOrder}, {profile(3, entry(7, 10, 0, 0, 0), entry(8, 20, 0, 0, 0), entry(8, 30, 0, 0, 0)), api.ErrOrder},
		{profile(3, entry(7, 10, 0, 0, 0), entry(7, 20, 0, 0, 0), wrong), api.ErrOrder}, {profile(3, entry(7, 10, 0, 0, 0), entry(8, 20, 0, 1000000, 0), entry(8, 20, 0, 0, 0)), api.ErrRange},
		{profile(2, entry(999999999, 10, 0, 0, 0), entry(1000000000, 20, 0, 0, 0)), api.ErrRange}, {profile(2, entry(999999999, 10, 0, 0, 0), entry(0, 20, 0, 0, 0)), api.ErrOrder}, {profile(2, entry(math.MaxInt, 10, 0, 0, 0), entry(math.MinInt, 20, 0, 0, 0)), api.ErrRange},
	}
}

// clockErrors are clocks that are none.
var clockErrors = []meter.Clock{
	clock(-1, 0, 0, 2), clock(100000001, 0, 0, 2), clock(math.MinInt, 0, 0, 2), clock(math.MaxInt, 0, 0, 2),
	clock(0, -1000001, 0, 2), clock(0, 1000001, 0, 2), clock(0, math.MinInt, 0, 2), clock(0, math.MaxInt, 0, 2),
	clock(0, 0, -1001, 2), clock(0, 0, 1001, 2), clock(0, 0, math.MinInt, 2), clock(0, 0, math.MaxInt, 2),
	clock(0, 0, 0, 1), clock(0, 0, 0, -2), clock(0, 0, 0, 1001), clock(0, 0, 0, math.MinInt), clock(0, 0, 0, math.MaxInt), {},
}
