package headend_test

import (
	"math/rand"
	"slices"
	"strconv"
	"testing"

	"kilovar/api"
	"kilovar/headend"
)

// P10.1: Replay, Accepts and AsOf

func TestReplayOfTheExamples(t *testing.T) {
	same(t, "no events", all(headend.Replay(nil)), all(headend.Register{}, 0, api.OK))
	r := registerOf(t, shown())
	same(t, "the register", r, headend.Register{
		Tick:     21,
		Offices:  []string{"a", "b"},
		Meters:   []headend.Meter{{Name: "m", Hops: 3}},
		Readings: []headend.Reading{{Name: "r", Meter: "m", Deadline: 20, Tries: 1, State: "missing", Units: 40}},
	})
	r = registerOf(t, shown("done r 22 45", "tariff t 22 122 10", "token k m 23 500", "use k 24", "token l m 24 7", "spend m 25 500", "arm a m 290", "order b m 295"))
	same(t, "the readings", r.Readings, []headend.Reading{{Name: "r", Meter: "m", Deadline: 20, Tries: 1, State: "late", Units: 45}})
	same(t, "the tariffs", r.Tariffs, []headend.Tariff{{Name: "t", From: 122, Price: 10}})
	same(t, "the tokens", r.Tokens, []headend.Token{{Name: "k", Meter: "m", Amount: 500, Used: true}, {Name: "l", Meter: "m", Amount: 7}})
	same(t, "the meters", r.Meters, []headend.Meter{{Name: "m", Hops: 3, Armed: "a", Ordered: "b", Since: 295}})
	same(t, "the tick", r.Tick, 295)
}

func TestReplayReturnsTheFirstWrongEvent(t *testing.T) {
	for _, x := range wrongJournals() {
		r, n, e := headend.Replay(x.l)
		same(t, "Replay", all(r, n, e), all(headend.Register{}, x.n, x.e))
		same(t, "Accepts after a wrong journal", headend.Accepts(x.l, eventOf(len(x.l)+1, "office z 999")), x.e)
		same(t, "Accepts of a wrong event after a wrong journal", headend.Accepts(x.l, api.Event{}), x.e)
	}
}

func TestNumbersFollowEachOther(t *testing.T) {
	for n := range 10 {
		want := api.ErrOrder
		switch n {
		case 0:
			want = api.ErrRange
		case 8:
			want = api.OK
		}
		same(t, "the number "+strconv.Itoa(n), headend.Accepts(shown(), eventOf(n, "office c 21")), want)
	}
	same(t, "the first number", headend.Accepts(nil, eventOf(2, "office c 21")), api.ErrOrder)
	same(t, "the number before all else", headend.Accepts(nil, eventOf(2, "undo")), api.ErrOrder)
	same(t, "the number after the event", headend.Accepts(nil, eventOf(2, "undo 1")), api.ErrShape)
}

func TestTheTickBeforeNamesBeforeAllElse(t *testing.T) {
	l := shown("tariff t 22 122 10", "token k m 23 500", "due q m 25 30")
	accepted(t, l,
		try{"office a 24", api.ErrState}, try{"office a 25", api.ErrTwice},
		try{"meter m 24", api.ErrState}, try{"meter m 25", api.ErrTwice},
		try{"route x 24 16", api.ErrState}, try{"route x 25 16", api.ErrUnknown}, try{"route m 25 16", api.ErrRange},
		try{"due r x 24 0", api.ErrState}, try{"due r x 25 0", api.ErrUnknown}, try{"due r m 25 0", api.ErrTwice}, try{"due s m 25 24", api.ErrOver}, try{"due s m 25 25", api.OK},
		try{"try m 24", api.ErrState}, try{"try m 25", api.ErrUnknown}, try{"done m 25 1000000", api.ErrUnknown}, try{"miss m 25 1000000", api.ErrUnknown},
		try{"tariff t 24 25 100001", api.ErrState}, try{"tariff t 25 25 100001", api.ErrTwice}, try{"tariff u 25 25 100001", api.ErrRange}, try{"tariff u 25 25 10", api.ErrShort},
		try{"token k x 24 0", api.ErrState}, try{"token k x 25 0", api.ErrUnknown}, try{"token k m 25 0", api.ErrTwice}, try{"token l m 25 0", api.ErrRange},
		try{"use m 24", api.ErrState}, try{"use m 25", api.ErrUnknown}, try{"spend r 24 0", api.ErrState}, try{"spend r 25 0", api.ErrUnknown}, try{"spend m 25 0", api.ErrRange},
		try{"arm a x 24", api.ErrState}, try{"arm a x 25", api.ErrUnknown}, try{"arm c m 25", api.ErrUnknown}, try{"arm m a 25", api.ErrUnknown}, try{"arm c x 25", api.ErrUnknown},
		try{"order a x 25", api.ErrUnknown}, try{"order c m 25", api.ErrUnknown}, try{"order a m 25", api.ErrState},
		try{"cut x 25", api.ErrUnknown}, try{"cut m 24", api.ErrState}, try{"restore x 25", api.ErrUnknown}, try{"restore m 25", api.ErrState},
	)
}

func TestNamesOfDifferentThingsMayBeEqual(t *testing.T) {
	registerOf(t, shown("office m 21", "office r 21", "meter a 21", "meter r 21", "due m a 21 30", "due a r 21 30", "tariff a 21 200 5", "tariff m 21 201 5", "token r r 22 5", "token m a 22 5", "arm m r 22", "order r r 22"))
}

func TestLimitsOfOfficesAndMeters(t *testing.T) {
	accepted(t, journal(lines(7, "office n* 0")...), try{"office x 0", api.OK})
	accepted(t, journal(lines(8, "office n* 0")...), try{"office x 0", api.ErrMany}, try{"office n0 0", api.ErrTwice}, try{"meter x 0", api.OK})
	accepted(t, journal(lines(15, "meter n* 0")...), try{"meter x 0", api.OK})
	accepted(t, journal(lines(16, "meter n* 0")...), try{"meter x 0", api.ErrMany}, try{"meter n15 0", api.ErrTwice}, try{"office x 0", api.OK})
}

func TestRoutes(t *testing.T) {
	accepted(t, shown(), try{"route m 21 0", api.OK}, try{"route m 21 15", api.OK}, try{"route m 21 16", api.ErrRange}, try{"route m 21 999999999", api.ErrRange})
	same(t, "the meters", registerOf(t, shown("meter n 30", "route n 31 15", "route m 32 0")).Meters, []headend.Meter{{Name: "m"}, {Name: "n", Hops: 15}})
}

// fullJournal returns a journal of n events.
func fullJournal(n int) []api.Event {
	return grown(journal("meter m 0"), lines(n-1, "route m * 2")...)
}

func TestAtMostSoManyEvents(t *testing.T) {
	same(t, "the last event", headend.Accepts(fullJournal(999), eventOf(1000, "undo")), api.OK)
	l := fullJournal(1000)
	same(t, "Replay", registerOf(t, l).Tick, 998)
	same(t, "a number too far", headend.Accepts(l, eventOf(1001, "undo")), api.ErrRange)
	for _, n := range ints(1, 999, 1000) {
		same(t, "an event too many", headend.Accepts(l, eventOf(n, "undo")), api.ErrMany)
	}
	same(t, "a wrong event too many", headend.Accepts(l, eventOf(1000, "undo 1")), api.ErrShape)
	same(t, "a journal that is too long", headend.Accepts(append(l, eventOf(1000, "undo")), api.Event{}), api.ErrMany)
}

func TestUndo(t *testing.T) {
	same(t, "of nothing", headend.Accepts(nil, eventOf(1, "undo")), api.ErrEmpty)
	l := shown("undo", "undo")
	same(t, "two undone", registerOf(t, l), registerOf(t, shown()[:5]))
	accepted(t, l, try{"miss r 21 40", api.OK}, try{"done r 21 40", api.ErrNone}, try{"office c 2", api.OK}, try{"office c 1", api.ErrState})
	for n := range 8 {
		l := shown(slices.Repeat([]string{"undo"}, n)...)
		same(t, "so many undone", registerOf(t, l), registerOf(t, shown()[:7-n]))
	}
	accepted(t, shown(slices.Repeat([]string{"undo"}, 7)...), try{"undo", api.ErrEmpty}, try{"office a 0", api.OK})
	same(t, "again", registerOf(t, shown("undo", "miss r 30 50", "undo", "miss r 25 41")).Readings[0], headend.Reading{Name: "r", Meter: "m", Deadline: 20, Tries: 1, State: "missing", Units: 41})
}

func TestWhatCannotBeUndone(t *testing.T) {
	sold := shown("token k m 23 500")
	accepted(t, sold, try{"undo", api.OK})
	used := grown(sold, "use k 24")
	accepted(t, used, try{"undo", api.ErrRule})
	later := grown(used, "spend m 25 500")
	accepted(t, later, try{"undo", api.OK})
	accepted(t, grown(later, "undo"), try{"undo", api.ErrRule})
	cut := grown(later, "arm a m 299", "order b m 299", "cut m 300")
	accepted(t, cut, try{"undo", api.ErrRule})
	accepted(t, cut[:len(cut)-1], try{"undo", api.OK})
	restored := grown(cut, "restore m 301")
	accepted(t, restored, try{"undo", api.ErrRule})
	accepted(t, grown(restored, "office c 302", "undo"), try{"undo", api.ErrRule}, try{"office c 301", api.OK})
}

func TestAsOf(t *testing.T) {
	l := journal("office a 5", "office b 5", "meter m 7", "undo", "meter n 6", "route n 9 3")
	for tick, n := range map[int]int{0: 0, 4: 0, 5: 2, 6: 5, 7: 5, 8: 5, 9: 6, 10: 6, 999999999: 6} {
		r, e := headend.AsOf(l, tick)
		same(t, "as of "+strconv.Itoa(tick), all(r, e), all(registerOf(t, l[:n]), api.OK))
	}
	r, e := headend.AsOf(l, 8)
	same(t, "what was undone later", all(r, e), all(headend.Register{Tick: 6, Offices: []string{"a", "b"}, Meters: []headend.Meter{{Name: "n"}}}, api.OK))
	for _, tick := range outside(0, 999999999) {
		same(t, "no tick", all(headend.AsOf(l, tick)), all(headend.Register{}, api.ErrRange))
	}
	for _, x := range wrongJournals() {
		same(t, "a wrong journal", all(headend.AsOf(x.l, 5)), all(headend.Register{}, x.e))
		same(t, "a wrong journal, and no tick", all(headend.AsOf(x.l, -1)), all(headend.Register{}, x.e))
	}
	same(t, "nothing", all(headend.AsOf(nil, 0)), all(headend.Register{}, api.OK))
}

// TestRandomJournals compares Replay, Accepts and AsOf with the model, for lines that are accepted and lines that are not. All errors occur.
func TestRandomJournals(t *testing.T) {
	r := rand.New(rand.NewSource(1))
	seen := map[string]bool{}
	for range 60 {
		l := journal("office a 0", "office b 0", "meter m 0", "route m 0 2")
		for range 150 {
			before := replay(l)
			e := eventOf(len(l)+1, randomLine(r, before))
			want := refusal(l, e)
			same(t, "Accepts", headend.Accepts(l, e), want)
			seen[e.Kind+" "+strconv.Itoa(int(want))] = true
			if want != api.OK {
				same(t, "Replay", all(headend.Replay(append(slices.Clone(l), e))), all(headend.Register{}, len(l)+1, want))
				continue
			}
			l = append(l, e)
			same(t, "Replay", all(headend.Replay(l)), all(replay(l), 0, api.OK))
		}
		tick := r.Intn(replay(l).Tick + 10)
		var left []api.Event
		for _, e := range counting(l) {
			if e.Values[0] <= tick {
				left = append(left, e)
			}
		}
		same(t, "AsOf", all(headend.AsOf(l, tick)), all(replay(left), api.OK))
	}
	for kind, errors := range map[string][]api.Errno{
		"office": {0, api.ErrState, api.ErrTwice}, "meter": {0, api.ErrState, api.ErrTwice}, "route": {0, api.ErrUnknown, api.ErrRange}, "due": {0, api.ErrUnknown, api.ErrTwice, api.ErrOver},
		"try": {0, api.ErrUnknown, api.ErrTwice, api.ErrNone, api.ErrMany}, "done": {0, api.ErrUnknown, api.ErrTwice, api.ErrNone, api.ErrRange}, "miss": {0, api.ErrUnknown, api.ErrTwice, api.ErrOpen, api.ErrRange},
		"tariff": {0, api.ErrTwice, api.ErrRange, api.ErrShort, api.ErrOrder}, "token": {0, api.ErrUnknown, api.ErrTwice, api.ErrRange}, "use": {0, api.ErrUnknown, api.ErrTwice}, "spend": {0, api.ErrUnknown, api.ErrRange, api.ErrShort},
		"arm": {0, api.ErrUnknown, api.ErrState, api.ErrTwice}, "order": {0, api.ErrUnknown, api.ErrState, api.ErrTwice, api.ErrRight, api.ErrOld}, "cut": {0, api.ErrUnknown, api.ErrState, api.ErrOld, api.ErrHeld, api.ErrRule}, "restore": {0, api.ErrUnknown, api.ErrState}, "undo": {0, api.ErrRule},
	} {
		for _, e := range errors {
			if !seen[kind+" "+strconv.Itoa(int(e))] {
				t.Errorf("%s never had the error %d", kind, e)
			}
		}
	}
}
