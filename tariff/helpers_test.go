package tariff_test

import (
	"fmt"
	"math"
	"math/rand"
	"reflect"
	"slices"
	"testing"

	"kilovar/api"
	"kilovar/tariff"
)

// same compares results with the expected ones; nil and empty lists are equal.
func same(t *testing.T, what string, got, want any) {
	t.Helper()
	if g, w := fmt.Sprintf("%+v", got), fmt.Sprintf("%+v", want); g != w {
		t.Errorf("%s: got %s, want %s", what, g, w)
	}
}

// all returns all results of a call in one.
func all(results ...any) []any { return results }

// value returns a result whose error another test examines.
func value[T any](x T, _ api.Errno) T { return x }

// zeros returns the zero value of each result.
func zeros(results ...any) []any {
	var out []any
	for _, x := range results {
		out = append(out, reflect.Zero(reflect.TypeOf(x)).Interface())
	}
	return out
}

func ints(l ...int) []int { return l }

func repeated[T any](x T, n int) []T {
	return slices.Repeat([]T{x}, n)
}

// far are numbers beyond all limits.
func far() []int {
	return ints(math.MinInt, math.MinInt+1, -1<<40, 1<<40, math.MaxInt-1, math.MaxInt)
}

// switches returns switches with these seconds and rates, in turn.
func switches(numbers ...int) []tariff.Switch {
	var out []tariff.Switch
	for pair := range slices.Chunk(numbers, 2) {
		out = append(out, tariff.Switch{At: pair[0], Rate: pair[1]})
	}
	return out
}

// old and young return the tariffs T and U of the examples.
func old() tariff.Tariff {
	return tariff.Tariff{
		Prices:  ints(100, 50, 200),
		Types:   [][]tariff.Switch{switches(0, 1, 21600, 0, 79200, 1), switches(0, 1)},
		Seasons: []tariff.Season{{Week: [7]int{0, 0, 0, 0, 0, 1, 1}}},
		Blocks:  []tariff.Block{{From: 10, Add: 20}},
	}
}

func young() tariff.Tariff {
	return tariff.Tariff{Prices: ints(80), Types: [][]tariff.Switch{switches(0, 0)}, Seasons: []tariff.Season{{}}}
}

// flat returns a tariff with one price and some blocks.
func flat(price int, blocks ...tariff.Block) tariff.Tariff {
	return tariff.Tariff{Prices: ints(price), Types: [][]tariff.Switch{switches(0, 0)}, Seasons: []tariff.Season{{}}, Blocks: blocks}
}

func version(from, announced int, t tariff.Tariff) tariff.Version {
	return tariff.Version{From: from, Announced: announced, Tariff: t}
}

func calendar(notice int, versions ...tariff.Version) tariff.Calendar {
	return tariff.Calendar{Notice: notice, Versions: versions}
}

// alone returns the calendar with one tariff from the day 0 on.
func alone(t tariff.Tariff) tariff.Calendar { return calendar(10, version(0, -10, t)) }

// from returns the calendar with one tariff from a day on.
func from(day int, t tariff.Tariff) tariff.Calendar { return calendar(10, version(day, -10, t)) }

// book returns the calendar C of the examples.
func book() tariff.Calendar { return calendar(10, version(0, -10, old()), version(20, 5, young())) }

func profile(start, step int, energies ...int) tariff.Profile {
	return tariff.Profile{Start: start, Step: step, Energies: energies}
}

// series returns a profile with the start and the step of the examples.
func series(energies ...int) tariff.Profile { return profile(18000, 3600, energies...) }

func load(from, to, step, runs, starts, energy int) tariff.Load {
	return tariff.Load{From: from, To: to, Step: step, Runs: runs, Starts: starts, Energy: energy}
}

// night and morning return the loads of the examples.
func night() tariff.Load   { return load(75600, 93600, 3600, 2, 1, 3) }
func morning() tariff.Load { return load(18000, 36000, 3600, 2, 1, 3) }

func pick(r *rand.Rand, l ...int) int { return l[r.Intn(len(l))] }

// ascending returns n different numbers below a limit, ascending.
func ascending(r *rand.Rand, n, limit int) []int {
	found := map[int]bool{}
	for len(found) < n {
		found[r.Intn(limit)] = true
	}
	var out []int
	for x := range found {
		out = append(out, x)
	}
	slices.Sort(out)
	return out
}

// fromZero returns n different numbers below a limit, ascending from 0 on.
func fromZero(r *rand.Rand, n, limit int) []int {
	l := ascending(r, n, limit)
	l[0] = 0
	return l
}

func randomTariff(r *rand.Rand) tariff.Tariff {
	t := tariff.Tariff{}
	for range 1 + r.Intn(4) {
		t.Prices = append(t.Prices, pick(r, 0, 50, 100, r.Intn(300)))
	}
	for range 1 + r.Intn(3) {
		var l []tariff.Switch
		for _, hour := range fromZero(r, 1+r.Intn(5), 48) { // some at boundaries of intervals, some not
			l = append(l, tariff.Switch{At: hour*1800 + min(hour, 1)*pick(r, 0, 0, 7), Rate: r.Intn(len(t.Prices))})
		}
		t.Types = append(t.Types, l)
	}
	for _, place := range fromZero(r, 1+r.Intn(3), 364) {
		s := tariff.Season{From: place}
		for i := range s.Week {
			s.Week[i] = r.Intn(len(t.Types))
		}
		t.Seasons = append(t.Seasons, s)
	}
	for _, units := range ascending(r, r.Intn(5), 60) {
		t.Blocks = append(t.Blocks, tariff.Block{From: 1 + units, Add: r.Intn(200) - 120})
	}
	return t
}

// randomCalendar returns a calendar with at most three versions, the first one from the day 0 or later on.
func randomCalendar(r *rand.Rand) tariff.Calendar {
	c := tariff.Calendar{Notice: r.Intn(5)}
	today, day := -c.Notice, pick(r, 0, 0, 1, r.Intn(10))
	for range 1 + r.Intn(3) {
		c.Versions = append(c.Versions, version(day, today, randomTariff(r)))
		day += pick(r, 1, 2, 1+r.Intn(20))
		today += r.Intn(day - c.Notice - today + 1)
	}
	return c
}

// randomProfile returns a profile without missing intervals after a day.
func randomProfile(r *rand.Rand, day, most int) tariff.Profile {
	p := tariff.Profile{Step: pick(r, 900, 1800, 3600)}
	p.Start = (day*tariff.Day + r.Intn(tariff.Day)) / p.Step * p.Step
	for range r.Intn(most + 1) {
		p.Energies = append(p.Energies, pick(r, 0, 1, r.Intn(12)))
	}
	return p
}

// lateDay returns a day at which some version of a calendar is in force.
func lateDay(r *rand.Rand, c tariff.Calendar) int {
	return c.Versions[0].From + r.Intn(40)
}

// randomLoad returns a load after a day with at most some intervals.
func randomLoad(r *rand.Rand, day, most int) tariff.Load {
	n := 1 + r.Intn(most)
	step := pick(r, 900, 1800, 3600)
	start := (day*tariff.Day + r.Intn(tariff.Day)) / step * step
	return load(start, start+n*step, step, 1+r.Intn(n), pick(r, 1, 1, 2, 3, 24), pick(r, 1, 3, 100000))
}

// modelRate returns the rate at a tick by the words of the definition, one after the other.
func modelRate(c tariff.Calendar, tick int) (tariff.Rate, bool) {
	day := int(math.Floor(float64(tick) / 86400))
	second := tick - 86400*day
	out, found := tariff.Rate{}, false
	for i, v := range c.Versions {
		if v.From > day {
			continue
		}
		week := [7]int{}
		for _, s := range v.Tariff.Seasons {
			if s.From <= day%364 {
				week = s.Week
			}
		}
		for _, s := range v.Tariff.Types[week[day%7]] {
			if s.At <= second {
				out = tariff.Rate{Version: i, Rate: s.Rate, Price: v.Tariff.Prices[s.Rate]}
			}
		}
		found = true
	}
	return out, found
}
