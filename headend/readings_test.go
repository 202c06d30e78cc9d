package headend_test

import (
	"math/rand"
	"slices"
	"strconv"
	"testing"

	"kilovar/api"
	"kilovar/headend"
)

// P10.1 and P10.2: readings, Due, Unnamed and Counts

// shownOpen returns the events of the examples before it is missing that r is.
func shownOpen(more ...string) []api.Event { return grown(shown()[:6], more...) }

func TestDueReadings(t *testing.T) {
	accepted(t, shownOpen(), try{"due q m 5 4", api.ErrOver}, try{"due q m 5 5", api.OK}, try{"due q m 5 999999999", api.OK}, try{"due q m 5 0", api.ErrOver})
	l := grown(journal("meter m 0"), lines(63, "due n* m 0 9")...)
	accepted(t, l, try{"due x m 0 9", api.OK})
	l = grown(l, "due x m 0 9")
	accepted(t, l, try{"due y m 0 9", api.ErrMany}, try{"due y m 1 0", api.ErrOver}, try{"due x m 0 9", api.ErrTwice})
	same(t, "the last reading", registerOf(t, l).Readings[63], headend.Reading{Name: "x", Meter: "m", Deadline: 9, State: "open"})
}

func TestTries(t *testing.T) {
	accepted(t, shown()[:4], try{"try r 1", api.ErrNone}, try{"route m 1 1", api.OK})
	accepted(t, shownOpen("route m 3 0"), try{"try r 4", api.ErrNone})
	accepted(t, shown(), try{"try r 30", api.OK})
	accepted(t, shownOpen("done r 4 0"), try{"try r 5", api.ErrTwice})
	accepted(t, shown("done r 22 0", "route m 22 0"), try{"try r 23", api.ErrTwice})
	l := shownOpen(slices.Repeat([]string{"try r 3"}, 6)...)
	accepted(t, l, try{"try r 3", api.OK})
	l = grown(l, "try r 3")
	accepted(t, l, try{"try r 3", api.ErrMany}, try{"done r 3 1", api.OK})
	accepted(t, grown(l, "route m 3 0"), try{"try r 3", api.ErrNone})
	same(t, "the tries", registerOf(t, l).Readings[0], headend.Reading{Name: "r", Meter: "m", Deadline: 20, Tries: 8, State: "open"})
	accepted(t, shownOpen("meter n 3", "due q n 3 9"), try{"try q 3", api.ErrNone}, try{"try r 3", api.OK})
}

func TestDoneReadings(t *testing.T) {
	accepted(t, shown()[:5], try{"done r 3 1000000", api.ErrNone}, try{"miss r 3 1000000", api.ErrOpen})
	accepted(t, shownOpen(), try{"done r 3 0", api.OK}, try{"done r 3 999999", api.OK}, try{"done r 3 1000000", api.ErrRange}, try{"done r 30 5", api.OK})
	accepted(t, shownOpen("done r 3 7"), try{"done r 3 1000000", api.ErrTwice}, try{"miss r 21 1000000", api.ErrTwice})
	accepted(t, shown("done r 22 45"), try{"done r 22 45", api.ErrTwice}, try{"miss r 22 45", api.ErrTwice})
	accepted(t, shownOpen("route m 3 0"), try{"done r 3 1", api.OK})
	same(t, "done", registerOf(t, shownOpen("done r 3 7")).Readings[0], headend.Reading{Name: "r", Meter: "m", Deadline: 20, Tries: 1, State: "done", Units: 7})
	same(t, "done after its deadline, but not missing", registerOf(t, shownOpen("done r 30 7")).Readings[0].State, "done")
	same(t, "late", registerOf(t, shown("done r 22 0")).Readings[0], headend.Reading{Name: "r", Meter: "m", Deadline: 20, Tries: 1, State: "late"})
}

func TestMissingReadings(t *testing.T) {
	accepted(t, shownOpen(), try{"miss r 20 40", api.ErrOpen}, try{"miss r 20 1000000", api.ErrOpen}, try{"miss r 21 40", api.OK}, try{"miss r 21 0", api.OK}, try{"miss r 21 999999", api.OK}, try{"miss r 21 1000000", api.ErrRange})
	accepted(t, shown(), try{"miss r 21 40", api.ErrTwice}, try{"miss r 22 1000000", api.ErrTwice})
	accepted(t, shown()[:4], try{"miss r 21 40", api.OK})
	missed := grown(shown()[:5], "miss r 21 40")
	accepted(t, missed, try{"done r 21 1", api.ErrNone}, try{"try r 21", api.OK})
	same(t, "missing, then late", registerOf(t, grown(missed, "try r 21", "done r 22 41")).Readings[0], headend.Reading{Name: "r", Meter: "m", Deadline: 20, Tries: 1, State: "late", Units: 41})
}

// several returns readings with some deadlines, one of which is done, one missing and one late.
func several() []api.Event {
	return shown("done r 22 45", "due a1 m 22 90", "due a2 m 22 30", "due a3 m 22 90", "due d m 22 50", "try d 22", "done d 22 1", "due e m 22 22", "miss e 23 9", "due a4 m 24 30")
}

func TestDueAndUnnamed(t *testing.T) {
	for tick, want := range map[int][2][]string{
		0:         {{"a2", "a4", "a1", "a3"}, nil},
		30:        {{"a2", "a4", "a1", "a3"}, nil},
		31:        {{"a1", "a3"}, {"a2", "a4"}},
		90:        {{"a1", "a3"}, {"a2", "a4"}},
		91:        {nil, {"a1", "a2", "a3", "a4"}},
		999999999: {nil, {"a1", "a2", "a3", "a4"}},
	} {
		same(t, "Due at "+strconv.Itoa(tick), all(headend.Due(several(), tick)), all(want[0], api.OK))
		same(t, "Unnamed at "+strconv.Itoa(tick), all(headend.Unnamed(several(), tick)), all(want[1], api.OK))
	}
	same(t, "due at its deadline", all(headend.Due(shown()[:4], 20)), all([]string{"r"}, api.OK))
	same(t, "not due after it", all(headend.Due(shown()[:4], 21)), all([]string{}, api.OK))
	same(t, "unnamed after it", all(headend.Unnamed(shown()[:4], 21)), all([]string{"r"}, api.OK))
	same(t, "not unnamed at it", all(headend.Unnamed(shown()[:4], 20)), all([]string{}, api.OK))
	same(t, "missing is named", all(headend.Unnamed(shown(), 21)), all([]string{}, api.OK))
	same(t, "nothing due", all(headend.Due(nil, 0)), all([]string{}, api.OK))
	same(t, "nothing unnamed", all(headend.Unnamed(nil, 5)), all([]string{}, api.OK))
}

func TestCounts(t *testing.T) {
	for n, want := range map[int][4]int{0: {}, 3: {}, 4: {1}, 6: {1}, 7: {0, 0, 1}} {
		same(t, "Counts", all(headend.Counts(shown()[:n])), all(want, api.OK))
	}
	same(t, "Counts of late", all(headend.Counts(shown("done r 22 45"))), all([4]int{0, 0, 0, 1}, api.OK))
	same(t, "Counts of done", all(headend.Counts(shownOpen("done r 22 45"))), all([4]int{0, 1}, api.OK))
	same(t, "Counts of several", all(headend.Counts(several())), all([4]int{4, 1, 1, 1}, api.OK))
	same(t, "Counts after an undo", all(headend.Counts(shown("undo"))), all([4]int{1}, api.OK))
}

func TestErrorsOfQuestionsAboutReadings(t *testing.T) {
	for _, tick := range outside(0, 999999999) {
		same(t, "Due at no tick", all(headend.Due(shown(), tick)), all([]string{}, api.ErrRange))
		same(t, "Unnamed at no tick", all(headend.Unnamed(several(), tick)), all([]string{}, api.ErrRange))
	}
	for _, x := range wrongJournals() {
		for _, tick := range ints(-1, 0, 1<<40) {
			same(t, "Due of a wrong journal", all(headend.Due(x.l, tick)), all([]string{}, x.e))
			same(t, "Unnamed of a wrong journal", all(headend.Unnamed(x.l, tick)), all([]string{}, x.e))
		}
		same(t, "Counts of a wrong journal", all(headend.Counts(x.l)), all([4]int{}, x.e))
	}
}

func TestReadingsOfRandomJournals(t *testing.T) {
	r := rand.New(rand.NewSource(2))
	for range 40 {
		l := randomJournal(r, 120)
		tick := r.Intn(replay(l).Tick + 60)
		var counts [4]int
		var due, unnamed []string
		deadlines := map[string]int{}
		for _, x := range replay(l).Readings {
			counts[slices.Index([]string{"open", "done", "missing", "late"}, x.State)]++
			deadlines[x.Name] = x.Deadline
			switch {
			case x.State != "open":
			case x.Deadline < tick:
				unnamed = append(unnamed, x.Name)
			default:
				due = append(due, x.Name)
			}
		}
		slices.SortStableFunc(due, func(a, b string) int { return deadlines[a] - deadlines[b] })
		same(t, "Counts", all(headend.Counts(l)), all(counts, api.OK))
		same(t, "Due", all(headend.Due(l, tick)), all(due, api.OK))
		same(t, "Unnamed", all(headend.Unnamed(l, tick)), all(unnamed, api.OK))
	}
}
