package headend_test

import (
	"fmt"
	"math"
	"math/rand"
	"reflect"
	"slices"
	"strconv"
	"strings"
	"testing"

	"kilovar/api"
	"kilovar/headend"
)

// same compares results with the expected ones; nil and empty lists are equal.
func same(t *testing.T, what string, got, want any) {
	t.Helper()
	if g, w := fmt.Sprintf("%+v", got), fmt.Sprintf("%+v", want); g != w {
		t.Errorf("%s: got %s, want %s", what, g, w)
	}
}

// all returns all results of a call in one.
func all(results ...any) []any { return results }

// value returns a result whose error another test examines.
func value[T any](x T, _ api.Errno) T { return x }

// zeros returns the zero value of each result.
func zeros(results ...any) []any {
	var out []any
	for _, x := range results {
		out = append(out, reflect.Zero(reflect.TypeOf(x)).Interface())
	}
	return out
}

func ints(l ...int) []int { return l }

// far are numbers beyond all limits.
func far() []int {
	return ints(math.MinInt, math.MinInt+1, -1<<40, 1<<40, math.MaxInt-1, math.MaxInt)
}

// outside returns numbers that are not from low to high.
func outside(low, high int) []int {
	return append(far(), low-1, high+1)
}

func wrongNames() []string {
	return []string{"", " ", "1a", "_a", "a-b", "a b", "a\n", "a#", "\xff", "\u00e4", strings.Repeat("a", 25)}
}

// eventOf returns the event of a line: its kind, the words that are names, and those that are numbers.
func eventOf(number int, line string) api.Event {
	words := strings.Fields(line)
	out := api.Event{Number: number, Kind: words[0]}
	for _, word := range words[1:] {
		if n, err := strconv.Atoi(word); err == nil {
			out.Values = append(out.Values, n)
		} else {
			out.Names = append(out.Names, word)
		}
	}
	return out
}

// journal returns the events of lines, with the numbers from 1 on.
func journal(lines ...string) []api.Event {
	return grown(nil, lines...)
}

// grown returns events, and those of further lines behind them.
func grown(l []api.Event, lines ...string) []api.Event {
	out := slices.Clone(l)
	for _, line := range lines {
		out = append(out, eventOf(len(out)+1, line))
	}
	return out
}

// shown returns the events of the examples, and those of further lines.
func shown(lines ...string) []api.Event {
	return grown(journal("office a 0", "office b 0", "meter m 0", "due r m 1 20", "route m 2 3", "try r 3", "miss r 21 40"), lines...)
}

// try is a line that is not accepted after some events, or is (OK).
type try struct {
	line string
	e    api.Errno
}

// accepted compares what Accepts and Replay say of lines after events with their errors.
func accepted(t *testing.T, l []api.Event, tries ...try) {
	t.Helper()
	for _, x := range tries {
		e := eventOf(len(l)+1, x.line)
		same(t, "Accepts "+x.line, headend.Accepts(l, e), x.e)
		number := 0
		if x.e != api.OK {
			number = len(l) + 1
		}
		r, n, got := headend.Replay(append(slices.Clone(l), e))
		same(t, "Replay with "+x.line, all(n, got), all(number, x.e))
		if x.e != api.OK {
			same(t, "the register beside an error", r, headend.Register{})
		}
	}
}

// registerOf returns the register of events that are accepted.
func registerOf(t *testing.T, l []api.Event) headend.Register {
	t.Helper()
	r, n, e := headend.Replay(l)
	if e != api.OK || n != 0 {
		t.Fatalf("the event %d has the error %d", n, e)
	}
	return r
}

// lines returns lines with the numbers from 0 on, before n, where they have a *.
func lines(n int, line string) []string {
	var out []string
	for i := range n {
		out = append(out, strings.ReplaceAll(line, "*", strconv.Itoa(i)))
	}
	return out
}

// named returns words with the numbers from 0 on, before n, behind them.
func named(n int, word string) []string {
	return lines(n, word+"*")
}

// wrongJournals returns journals that are wrong, with the numbers and the errors of the first events that are.
func wrongJournals() []struct {
	l []api.Event
	n int
	e api.Errno
} {
	type wrong = struct {
		l []api.Event
		n int
		e api.Errno
	}
	return []wrong{
		{make([]api.Event, 1001), 0, api.ErrMany},
		{journal(named(1001, "office n")...), 0, api.ErrMany},
		{journal("offices a 0"), 1, api.ErrKind},
		{journal("undo"), 1, api.ErrEmpty},
		{journal("office a 0", "office b"), 2, api.ErrShape},
		{journal("office a 0", "office a 0", "office b"), 2, api.ErrTwice},
		{journal("office a 5", "office b 4", "undo 3"), 2, api.ErrState},
		{shown("miss r 21 40"), 8, api.ErrTwice},
		{append(shown(), eventOf(9, "undo")), 8, api.ErrOrder},
		{append(shown(), eventOf(0, "undo")), 8, api.ErrRange},
		{append(shown(), eventOf(7, "undo")), 8, api.ErrOrder},
		{shown("route m 21 16", "undo 1"), 8, api.ErrRange},
	}
}

func pick[T any](r *rand.Rand, l ...T) T { return l[r.Intn(len(l))] }

// randomLine returns a line that is mostly accepted after events with a register, or almost.
func randomLine(r *rand.Rand, x headend.Register) string {
	tick := x.Tick + pick(r, 0, 0, r.Intn(10), r.Intn(30), r.Intn(60), 50, 51, 100, r.Intn(400))
	if r.Intn(25) == 0 {
		tick -= 1 + r.Intn(3)
	}
	number := func(l ...int) string { return strconv.Itoa(pick(r, l...)) }
	office, meter := pick(r, "a", "b", "c"), pick(r, "m", "m", "m", "m", "n", "o")
	reading, token := "r"+number(0, 0, r.Intn(8)), "k"+number(r.Intn(5))
	at := " " + strconv.Itoa(max(0, tick))
	for _, m := range x.Meters { // few of the other lines lead to a cut
		if m.Ordered != "" && r.Intn(4) == 0 {
			return "cut " + m.Name + at
		}
		if m.Armed != "" && r.Intn(4) == 0 {
			return "order " + pick(r, "a", "b", "c") + " " + m.Name + at
		}
	}
	switch r.Intn(26) {
	case 0:
		return "office " + office + at
	case 1:
		return "meter " + meter + at
	case 2:
		return "route " + meter + at + " " + number(0, 1, 15, 16, r.Intn(16))
	case 3, 4:
		return "due " + reading + " " + meter + at + " " + number(max(0, tick-1), tick, tick+r.Intn(50), tick+r.Intn(50))
	case 5, 6, 7, 8, 9:
		return "try " + reading + at
	case 10, 11:
		return "done " + reading + at + " " + number(0, r.Intn(1000), 999999, 1000000)
	case 12, 13:
		return "miss " + reading + at + " " + number(0, r.Intn(1000), 999999, 1000000)
	case 14:
		return "tariff t" + number(r.Intn(8)) + at + " " + number(tick+99, tick+100, tick+100+r.Intn(500)) + " " + number(0, r.Intn(100), 100000, 100001)
	case 15:
		return "token " + token + " " + meter + at + " " + number(0, 1, r.Intn(1000), 1000000, 1000001)
	case 16:
		return "use " + token + at
	case 17, 18:
		return "spend " + meter + at + " " + number(0, 1, r.Intn(100), creditIn(x, meter), creditIn(x, meter), creditIn(x, meter)+1)
	case 19, 20:
		return "arm " + office + " " + meter + at
	case 21, 22:
		return "order " + office + " " + meter + at
	case 23:
		return "cut " + meter + at
	case 24:
		return "restore " + meter + at
	}
	return "undo"
}

// creditIn returns the credit of a meter in a register.
func creditIn(x headend.Register, meter string) int {
	for _, m := range x.Meters {
		if m.Name == meter {
			return m.Credit
		}
	}
	return 0
}

// randomJournal returns a journal that is accepted, of at most n events.
func randomJournal(r *rand.Rand, n int) []api.Event {
	l := journal("office a 0", "office b 0", "meter m 0", "route m 0 2")
	for range n {
		e := eventOf(len(l)+1, randomLine(r, replay(l)))
		if refusal(l, e) == api.OK {
			l = append(l, e)
		}
	}
	return l
}

func job(name string, deadline, hops, worth int) headend.Job {
	return headend.Job{Name: name, Deadline: deadline, Hops: hops, Value: worth}
}

// jobs returns the jobs of the examples.
func jobs() []headend.Job {
	return []headend.Job{job("x", 0, 3, 5), job("y", 1, 3, 4), job("z", 1, 2, 3)}
}

func randomJobs(r *rand.Rand, most int) []headend.Job {
	var out []headend.Job
	for _, name := range named(r.Intn(most+1), "j") {
		out = append(out, job(name, r.Intn(5), pick(r, 1, 15, 1+r.Intn(5), 1+r.Intn(15)), pick(r, 0, r.Intn(6), r.Intn(6), r.Intn(1001), 1000)))
	}
	return out
}

// randomSlots returns up to most numbers, each up to a limit, and often much lower.
func randomSlots(r *rand.Rand, most, limit int) []int {
	out := make([]int, r.Intn(most+1))
	for i := range out {
		out[i] = pick(r, 0, r.Intn(8), r.Intn(8), r.Intn(20), r.Intn(limit+1), limit)
	}
	return out
}
