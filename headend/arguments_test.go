package headend_test

import (
	"fmt"
	"math"
	"math/rand"
	"reflect"
	"slices"
	"strings"
	"testing"

	"kilovar/api"
	"kilovar/headend"
)

// P1: every function terminates and never panics, for all arguments; they are not modified, and results share no memory with them.

// arguments has one of each kind that functions take.
type arguments struct {
	l                   []api.Event
	e                   api.Event
	tick                int
	meter               string
	jobs                []headend.Job
	slots, plan, prices []int
	log, line           string
}

// calls calls all functions, and returns their results.
func calls(x arguments) []any {
	out := all(headend.CheckEvent(x.e), headend.Accepts(x.l, x.e), headend.CheckJobs(x.jobs, x.slots))
	add := func(results ...any) { out = append(out, results...) }
	r, n, e := headend.Replay(x.l)
	add(r, n, e)
	r, e = headend.AsOf(x.l, x.tick)
	add(r, e)
	names, e := headend.Due(x.l, x.tick)
	add(names, e)
	names, e = headend.Unnamed(x.l, x.tick)
	add(names, e)
	counts, e := headend.Counts(x.l)
	add(counts, e)
	n, e = headend.Price(x.l, x.tick)
	add(n, e)
	n, e = headend.Credit(x.l, x.meter)
	add(n, e)
	names, e = headend.Barrier(x.l, x.meter, x.tick)
	add(names, e)
	story, e := headend.Story(x.l, x.meter)
	add(story, e)
	return append(out, moreCalls(x)...)
}

func moreCalls(x arguments) []any {
	var out []any
	add := func(results ...any) { out = append(out, results...) }
	n, e := headend.CheckPlan(x.jobs, x.slots, x.plan)
	add(n, e)
	plan, n, e := headend.Plan(x.jobs, x.slots)
	add(plan, n, e)
	n, e = headend.Bound(x.jobs, x.slots, x.prices)
	add(n, e)
	log, e := headend.Append(x.log, x.e)
	add(log, e)
	l, n, e := headend.Recover(x.log)
	add(l, n, e)
	s, e := headend.Open(x.log)
	add(e)
	if e != api.OK {
		s = headend.New()
	}
	result, e := s.Do(x.line)
	add(result, e, s.Events(), s.Log())
	return out
}

// visitLists visits all lists in a value that are not empty, those in lists and structures, too.
func visitLists(v reflect.Value, visit func(v reflect.Value)) {
	switch {
	case v.Kind() == reflect.Struct:
		for i := range v.NumField() {
			visitLists(v.Field(i), visit)
		}
	case v.Kind() == reflect.Slice && v.Len() > 0:
		for i := range v.Len() {
			visitLists(v.Index(i), visit)
		}
		visit(v)
	}
}

// spoil changes all elements of all lists among values.
func spoil(values ...any) {
	for _, x := range values {
		visitLists(reflect.ValueOf(x), func(v reflect.Value) {
			for i := range v.Len() {
				v.Index(i).SetZero()
			}
		})
	}
}

// anyInt returns any number, which may be far beyond all limits.
func anyInt(r *rand.Rand) int {
	return pick(r, r.Intn(3), r.Intn(20)-1, r.Intn(5000)-10, math.MinInt, math.MaxInt, int(r.Uint64()))
}

// spoiltBy returns a number, or now and then any one.
func spoiltBy(r *rand.Rand, x, often int) int {
	if r.Intn(often) > 0 {
		return x
	}
	return anyInt(r)
}

func anyKind(r *rand.Rand) string {
	var kinds []string
	for kind := range forms() {
		kinds = append(kinds, kind)
	}
	slices.Sort(kinds)
	return pick(r, append(kinds, "", "none", "open")...)
}

// anyEvent returns an event of which now and then something is any.
func anyEvent(r *rand.Rand, e api.Event) api.Event {
	e = api.Event{Number: spoiltBy(r, e.Number, 20), Kind: e.Kind, Names: slices.Clone(e.Names), Values: slices.Clone(e.Values)}
	for i := range e.Values {
		e.Values[i] = spoiltBy(r, e.Values[i], 20)
	}
	switch r.Intn(40) {
	case 0:
		e.Kind = anyKind(r)
	case 1:
		e.Names = append(e.Names, "a")
	case 2:
		e.Values = append(e.Values, anyInt(r))
	case 3:
		e.Names = nil
	case 4:
		e.Values = nil
	case 5:
		e.Text = "x"
	case 6:
		if len(e.Names) > 0 {
			e.Names[0] = pick(r, wrongNames()...)
		}
	}
	return e
}

func anyArguments(seed int64) arguments {
	r := rand.New(rand.NewSource(seed))
	x := arguments{l: randomJournal(r, r.Intn(40))}
	register := replay(x.l)
	x.tick, x.meter = spoiltBy(r, register.Tick+r.Intn(100), 10), pick(r, "m", "m", "m", "n", "", "\xff")
	x.log, x.line = logOf(x.l), randomLine(r, register)
	x.e = anyEvent(r, eventOf(len(x.l)+1, randomLine(r, register)))
	if r.Intn(4) == 0 {
		at := r.Intn(len(x.l))
		x.l[at] = anyEvent(r, x.l[at])
	}
	if r.Intn(2) == 0 {
		at := r.Intn(len(x.log))
		x.log = x.log[:at] + pick(r, "", " ", "\n", "#", "0", "\xff") + x.log[at+r.Intn(2):]
	}
	if r.Intn(2) == 0 {
		x.line = pick(r, "open", "state r0", "credit m", "version", "unused", x.line+" ", " "+x.line, strings.ReplaceAll(x.line, " ", ""), x.line[:r.Intn(len(x.line))], "\xff", "")
	}
	x.jobs, x.slots = randomJobs(r, 7), randomSlots(r, 5, 100)
	x.prices = randomSlots(r, len(x.slots), 1000)
	x.plan = randomSlots(r, len(x.jobs), 5)
	for i := range x.jobs {
		j := &x.jobs[i]
		j.Deadline, j.Hops, j.Value = spoiltBy(r, j.Deadline, 60), spoiltBy(r, j.Hops, 60), spoiltBy(r, j.Value, 60)
	}
	for _, l := range [][]int{x.slots, x.prices, x.plan} {
		for i := range l {
			l[i] = spoiltBy(r, l[i], 60)
		}
	}
	return x
}

// TestAllArguments calls all functions with equal arguments, spoils results, then arguments, and compares what is left.
func TestAllArguments(t *testing.T) {
	for seed := range int64(2000) {
		x := anyArguments(seed)
		first := calls(x)
		printed := fmt.Sprint(first)
		spoil(first...)
		if fmt.Sprint(x) != fmt.Sprint(anyArguments(seed)) {
			t.Fatalf("the arguments of the seed %d are modified", seed)
		}
		second := calls(x)
		spoil(x.l, x.e, x.jobs, x.slots, x.plan, x.prices)
		if fmt.Sprint(second) != printed {
			t.Fatalf("the results of the seed %d share memory with arguments, or depend on more than them", seed)
		}
	}
}

func TestResultsShareNoMemory(t *testing.T) {
	for seed := range int64(500) {
		seen := map[uintptr]bool{}
		for _, x := range calls(anyArguments(seed)) {
			visitLists(reflect.ValueOf(x), func(v reflect.Value) {
				if seen[v.Pointer()] {
					t.Fatal("two lists of results share memory")
				}
				seen[v.Pointer()] = true
			})
		}
	}
}

// TestEventsOfAnyForm calls all functions with events that have any numbers of names and values.
func TestEventsOfAnyForm(t *testing.T) {
	r := rand.New(rand.NewSource(20))
	for range 3000 {
		var e api.Event
		e.Number, e.Kind = pick(r, 1, 8, anyInt(r)), anyKind(r)
		for range r.Intn(4) {
			e.Names = append(e.Names, pick(r, "m", "r", "a", ""))
		}
		for range r.Intn(5) {
			e.Values = append(e.Values, anyInt(r))
		}
		l := append(shown(), e)
		calls(arguments{l: l, e: e, tick: anyInt(r), meter: "m"})
		calls(arguments{l: []api.Event{e, e}, e: e})
		if _, n, wrong := headend.Replay(l); wrong == api.OK && n != 0 || wrong != api.OK && n != 8 {
			t.Fatalf("the event %v: %d, %d", e, n, wrong)
		}
	}
}

// TestResultsBesideErrors calls functions whose errors no other test examines beside all results.
func TestResultsBesideErrors(t *testing.T) {
	for _, x := range wrongJournals() {
		for _, results := range [][]any{all(headend.AsOf(x.l, 0)), all(headend.Counts(x.l)), all(headend.Price(x.l, 0)), all(headend.Credit(x.l, "m")), all(headend.Due(x.l, 0)), all(headend.Unnamed(x.l, 0)), all(headend.Barrier(x.l, "m", 0)), all(headend.Story(x.l, "m"))} {
			same(t, "a result beside an error", results[:1], zeros(results[:1]...))
			same(t, "the error", results[1], x.e)
		}
	}
}

// TestRoomBehindLists has events with room behind their lists: no result is written into it.
func TestRoomBehindLists(t *testing.T) {
	l := shown()
	for i := range l {
		l[i].Names = append(make([]string, 0, 8), l[i].Names...)
		l[i].Values = append(make([]int, 0, 8), l[i].Values...)
	}
	l = append(make([]api.Event, 0, 20), l...)
	story := value(headend.Story(l, "m"))
	for i := range story {
		story[i].Names = append(story[i].Names, "x")
		story[i].Values = append(story[i].Values, 9)
	}
	for _, e := range l {
		same(t, "room", all(slices.Contains(e.Names[:8], "x"), slices.Contains(e.Values[:8], 9)), all(false, false))
	}
	same(t, "room behind the events", l[:8][7], api.Event{})
}
