package tariff_test

import (
	"fmt"
	"math"
	"math/rand"
	"reflect"
	"slices"
	"testing"

	"kilovar/api"
	"kilovar/tariff"
)

// P1: every function terminates and never panics, for all arguments; they are not modified, and results share no memory with them.

// arguments has one of each kind that functions take.
type arguments struct {
	c, d  tariff.Calendar
	t     tariff.Tariff
	p, q  tariff.Profile
	l     tariff.Load
	runs  []int
	x, y  int
	used  int
	price int
	text  string
}

// calls calls all functions, and returns their results.
func calls(a arguments) []any {
	out := all(tariff.CheckTariff(a.t), tariff.CheckCalendar(a.c), tariff.CheckProfile(a.p), tariff.CheckLoad(a.l))
	add := func(results ...any) { out = append(out, results...) }
	n, e := tariff.InForce(a.c, a.x)
	add(n, e)
	rate, e := tariff.RateAt(a.c, a.x)
	add(rate, e)
	l, e := tariff.Changes(a.c, a.x, a.y)
	add(l, e)
	c, e := tariff.Announced(a.c, a.x, a.y, a.t)
	add(c, e)
	c, e = tariff.Withdrawn(a.c, a.x)
	add(c, e)
	n, missing, e := tariff.Known(a.p)
	add(n, missing, e)
	p, q, e := tariff.Split(a.p, a.x)
	add(p, q, e)
	p, e = tariff.Joined(a.p, a.q)
	add(p, e)
	p, e = tariff.Estimated(a.p, a.y)
	add(p, e)
	return append(out, moreCalls(a)...)
}

func moreCalls(a arguments) []any {
	var out []any
	add := func(results ...any) { out = append(out, results...) }
	b, e := tariff.Billed(a.c, a.p, a.used)
	add(b, e)
	lines, e := tariff.Lines(a.c, a.p, a.used)
	add(lines, e)
	n, e := tariff.Corrected(a.c, a.p, a.q, a.used)
	add(n, e)
	n, e = tariff.Compared(a.c, a.d, a.p, a.used)
	add(n, e)
	mean, e := tariff.Mean(a.c, a.p, a.used)
	add(mean, e)
	l, n, e := tariff.Cheapest(a.c, a.l)
	add(l, n, e)
	n, e = tariff.CheckRuns(a.c, a.l, a.runs)
	add(n, e)
	n, e = tariff.Bound(a.c, a.l, a.price)
	add(n, e)
	s, e := tariff.Print(a.c)
	add(s, e)
	c, n, e := tariff.Parse(a.text)
	add(c, n, e)
	return out
}

// visitLists visits all lists in a value that are not empty, those in lists and structures, too.
func visitLists(v reflect.Value, visit func(v reflect.Value)) {
	switch {
	case v.Kind() == reflect.Struct:
		for i := range v.NumField() {
			visitLists(v.Field(i), visit)
		}
	case v.Kind() == reflect.Slice && v.Len() > 0:
		for i := range v.Len() {
			visitLists(v.Index(i), visit)
		}
		visit(v)
	}
}

// spoil changes all elements of all lists among values.
func spoil(values ...any) {
	for _, x := range values {
		visitLists(reflect.ValueOf(x), func(v reflect.Value) {
			for i := range v.Len() {
				v.Index(i).SetZero()
			}
		})
	}
}

// anyInt returns any number, which may be far beyond all limits.
func anyInt(r *rand.Rand) int {
	return pick(r, r.Intn(3), r.Intn(20)-1, r.Intn(5000)-10, math.MinInt, math.MaxInt, int(r.Uint64()))
}

// spoiltBy returns a number, or now and then any one.
func spoiltBy(r *rand.Rand, x, often int) int {
	if r.Intn(often) > 0 {
		return x
	}
	return anyInt(r)
}

// anyTariff returns a tariff of which now and then a number is any one.
func anyTariff(r *rand.Rand) tariff.Tariff {
	t := randomTariff(r)
	switch r.Intn(20) {
	case 0:
		t.Prices[r.Intn(len(t.Prices))] = anyInt(r)
	case 1:
		l := t.Types[r.Intn(len(t.Types))]
		l[r.Intn(len(l))] = tariff.Switch{At: anyInt(r), Rate: anyInt(r)}
	case 2:
		s := &t.Seasons[r.Intn(len(t.Seasons))]
		s.From, s.Week[r.Intn(7)] = spoiltBy(r, s.From, 2), anyInt(r)
	case 3:
		t.Blocks = append(t.Blocks, tariff.Block{From: anyInt(r), Add: anyInt(r)})
	case 4:
		t.Types = t.Types[:r.Intn(len(t.Types))]
	}
	return t
}

func anyCalendar(r *rand.Rand) tariff.Calendar {
	c := randomCalendar(r)
	c.Notice = spoiltBy(r, c.Notice, 20)
	for i := range c.Versions {
		v := &c.Versions[i]
		v.From, v.Announced = spoiltBy(r, v.From, 40), spoiltBy(r, v.Announced, 40)
		if r.Intn(4) == 0 {
			v.Tariff = anyTariff(r)
		}
	}
	return c
}

func anyProfile(r *rand.Rand, day int) tariff.Profile {
	p := randomProfile(r, day, 30)
	p.Start, p.Step = spoiltBy(r, p.Start, 20), spoiltBy(r, p.Step, 20)
	for i := range p.Energies {
		p.Energies[i] = spoiltBy(r, p.Energies[i], 300)
	}
	if len(p.Energies) > 0 && r.Intn(3) == 0 {
		p.Energies[r.Intn(len(p.Energies))] = tariff.Missing
	}
	return p
}

func anyLoad(r *rand.Rand, day int) tariff.Load {
	l := randomLoad(r, day, 24)
	return load(spoiltBy(r, l.From, 30), spoiltBy(r, l.To, 30), spoiltBy(r, l.Step, 30), spoiltBy(r, l.Runs, 30), spoiltBy(r, l.Starts, 30), spoiltBy(r, l.Energy, 30))
}

func anyText(r *rand.Rand) string {
	text := value(tariff.Print(randomCalendar(r)))
	if r.Intn(2) > 0 {
		at := r.Intn(len(text))
		text = text[:at] + []string{"", " ", "\n", "-", "0", "\xff"}[r.Intn(6)] + text[at+r.Intn(2):]
	}
	for range r.Intn(3) * r.Intn(2) {
		text += []string{"version", " ", "\n", "1", "0", " 2", "\xff", "block 9 1\n", "prices 1\n"}[r.Intn(9)]
	}
	return text
}

func anyArguments(seed int64) arguments {
	r := rand.New(rand.NewSource(seed))
	a := arguments{c: anyCalendar(r), d: anyCalendar(r), t: anyTariff(r), text: anyText(r)}
	day := min(max(a.c.Versions[0].From, 0), 1000) + r.Intn(20)
	a.p, a.l = anyProfile(r, day), anyLoad(r, day)
	a.q = profile(a.p.Start, a.p.Step, slices.Clone(a.p.Energies)...)
	if r.Intn(2) == 0 {
		a.q.Start += a.p.Step * len(a.p.Energies)
	}
	if a.l.Runs > 0 && a.l.Runs < 25 {
		for i := range a.l.Runs {
			a.runs = append(a.runs, spoiltBy(r, i, 100))
		}
	}
	a.x = spoiltBy(r, r.Intn(100), 5)
	a.y = a.x + spoiltBy(r, 1+r.Intn(100000), 5)
	a.used, a.price = spoiltBy(r, r.Intn(100), 20), spoiltBy(r, r.Intn(1000), 10)
	return a
}

// TestAllArguments calls all functions with equal arguments, spoils results, then arguments, and compares what is left.
func TestAllArguments(t *testing.T) {
	for seed := range int64(2000) {
		a := anyArguments(seed)
		first := calls(a)
		printed := fmt.Sprint(first)
		spoil(first...)
		if fmt.Sprint(a) != fmt.Sprint(anyArguments(seed)) {
			t.Fatalf("the arguments of the seed %d are modified", seed)
		}
		second := calls(a)
		spoil(a.c, a.d, a.t, a.p, a.q, a.runs)
		if fmt.Sprint(second) != printed {
			t.Fatalf("the results of the seed %d share memory with arguments, or depend on more than them", seed)
		}
	}
}

func TestResultsShareNoMemory(t *testing.T) {
	for seed := range int64(1000) {
		seen := map[uintptr]bool{}
		for _, x := range calls(anyArguments(seed)) {
			visitLists(reflect.ValueOf(x), func(v reflect.Value) {
				if seen[v.Pointer()] {
					t.Fatal("two lists of results share memory")
				}
				seen[v.Pointer()] = true
			})
		}
	}
}

// TestRoomBehindLists changes calendars and profiles whose memory has room: no result changes another one.
func TestRoomBehindLists(t *testing.T) {
	c := calendar(10, append(make([]tariff.Version, 0, 8), alone(old()).Versions...)...)
	one := value(tariff.Announced(c, 5, 20, young()))
	two := value(tariff.Announced(c, 6, 30, old()))
	same(t, "two versions", all(one.Versions[1].From, two.Versions[1].From), all(20, 30))
	same(t, "what is behind the versions", c.Versions[:2][1], tariff.Version{})
	p := profile(18000, 3600, append(make([]int, 0, 8), 4, 5)...)
	first := value(tariff.Joined(p, profile(25200, 3600, 1)))
	second := value(tariff.Joined(p, profile(25200, 3600, 2)))
	same(t, "two profiles", all(first, second), all(series(4, 5, 1), series(4, 5, 2)))
	same(t, "what is behind the energies", p.Energies[:3][2], 0)
	a, b, _ := tariff.Split(series(4, 5, 3), 1)
	same(t, "what is behind a part", all(append(a.Energies, 9), b.Energies), all(ints(4, 9), ints(5, 3)))
}

func TestNothing(t *testing.T) {
	for _, x := range calls(arguments{}) {
		if e, ok := x.(api.Errno); ok && (e <= api.OK || e > api.ErrOld) {
			t.Errorf("error %d", e)
		}
	}
}

// TestManyAndFar calls functions with lists far above their limits, and with numbers beyond all of them.
func TestManyAndFar(t *testing.T) {
	for _, n := range far() {
		types := repeated(repeated(tariff.Switch{At: n, Rate: n}, 1000), 1000)
		bad := tariff.Tariff{Prices: repeated(n, 100000), Types: types, Seasons: repeated(tariff.Season{From: n, Week: [7]int{n, n}}, 100000), Blocks: repeated(tariff.Block{From: n, Add: n}, 100000)}
		few := tariff.Tariff{Prices: ints(n), Types: [][]tariff.Switch{{{At: n, Rate: n}}}, Seasons: []tariff.Season{{From: n, Week: [7]int{n}}}, Blocks: []tariff.Block{{From: n, Add: n}}}
		for _, x := range []tariff.Tariff{bad, few} {
			c := calendar(n, repeated(version(n, n, x), 100)...)
			wrong := arguments{c: c, d: c, t: x, p: profile(n, n, repeated(n, 100000)...), q: profile(n, n, n), l: load(n, n, n, n, n, n), runs: repeated(n, 100000), x: n, y: n, used: n, price: n, text: string(make([]byte, 1000000))}
			for _, result := range calls(wrong) {
				if e, ok := result.(api.Errno); ok && e == api.OK {
					t.Errorf("no error of the number %d", n)
				}
			}
			wrong.c, wrong.d = book(), calendar(0, version(0, 0, x))
			wrong.l = load(0, 3600, 900, 1, 1, 1)
			for _, result := range moreCalls(wrong)[:2] {
				same(t, "Billed of wrong arguments", result == api.OK, false)
			}
		}
	}
}

// TestLimits compares the limits with the chapter's.
func TestLimits(t *testing.T) {
	same(t, "the limits", ints(tariff.Day, tariff.Year, tariff.MaxRates, tariff.MaxTypes, tariff.MaxSwitches, tariff.MaxSeasons, tariff.MaxBlocks, tariff.MaxVersions, tariff.MaxPrice, tariff.MaxNotice, tariff.MaxIntervals, tariff.MaxEnergy, tariff.MaxUsed, tariff.MaxLook, tariff.MaxSlots, tariff.Missing),
		ints(86400, 364, 8, 8, 12, 8, 4, 8, 100000, 364, 96, 100000, 100000000, 691200, 24, -1))
}
