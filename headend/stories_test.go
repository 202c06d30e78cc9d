package headend_test

import (
	"math/rand"
	"slices"
	"testing"

	"kilovar/api"
	"kilovar/headend"
)

// P10.2: Story

func TestStory(t *testing.T) {
	l := journal("office a 0", "meter m 0", "meter n 1", "route m 2 3", "route n 2 4", "due r m 3 20", "due q n 3 20", "try r 4", "undo", "try q 4", "try r 5", "tariff t 5 200 7", "office b 6", "done q 7 9", "token k m 8 50", "token h n 8 70", "use h 9", "use k 9", "miss r 21 40", "done r 22 41", "spend m 23 50", "spend n 23 1", "arm a m 290", "order b m 291", "arm b n 292", "cut m 300", "restore m 310")
	m, e := headend.Story(l, "m")
	same(t, "the story of m", all(m, e), all(journal("office a 0", "meter m 0", "route m 2 3", "due r m 3 20", "try r 5", "office b 6", "token k m 8 50", "use k 9", "miss r 21 40", "done r 22 41", "spend m 23 50", "arm a m 290", "order b m 291", "cut m 300", "restore m 310"), api.OK))
	n, e := headend.Story(l, "n")
	same(t, "the story of n", all(n, e), all(journal("office a 0", "meter n 1", "route n 2 4", "due q n 3 20", "try q 4", "office b 6", "done q 7 9", "token h n 8 70", "use h 9", "spend n 23 1", "arm b n 292"), api.OK))
	same(t, "a story of its meter alone", all(headend.Story(journal("meter m 0"), "m")), all(journal("meter m 0"), api.OK))
}

// TestStoryOfEqualNames has an office, a meter, a reading, a tariff and a token with one name.
func TestStoryOfEqualNames(t *testing.T) {
	l := journal("office m 0", "meter m 0", "meter n 0", "route n 0 2", "due m n 1 9", "due n m 1 9", "tariff m 1 200 5", "tariff n 1 201 5", "token m n 2 5", "token n m 2 6", "try m 3", "use m 4", "use n 5", "arm m n 6", "undo", "arm m m 7")
	same(t, "of m", all(headend.Story(l, "m")), all(journal("office m 0", "meter m 0", "due n m 1 9", "token n m 2 6", "use n 5", "arm m m 7"), api.OK))
	same(t, "of n", all(headend.Story(l, "n")), all(journal("office m 0", "meter n 0", "route n 0 2", "due m n 1 9", "token m n 2 5", "try m 3", "use m 4"), api.OK))
}

// TestStoryOfNamesThatWereUndone has a reading and a token that were another meter's before.
func TestStoryOfNamesThatWereUndone(t *testing.T) {
	l := journal("meter m 0", "meter n 0", "route m 0 1", "route n 0 1", "due r m 0 9", "try r 0", "undo", "undo", "due r n 0 9", "try r 0", "token k n 0 5", "undo", "token k m 0 6", "use k 0")
	same(t, "of m", all(headend.Story(l, "m")), all(journal("meter m 0", "route m 0 1", "token k m 0 6", "use k 0"), api.OK))
	same(t, "of n", all(headend.Story(l, "n")), all(journal("meter n 0", "route n 0 1", "due r n 0 9", "try r 0"), api.OK))
}

func TestErrorsOfStory(t *testing.T) {
	for _, name := range append(wrongNames(), "a", "r", "M", "n") {
		same(t, "Story of no meter", all(headend.Story(shown(), name)), all([]api.Event{}, api.ErrUnknown))
	}
	same(t, "Story of a meter that was undone", all(headend.Story(journal("meter m 0", "undo"), "m")), all([]api.Event{}, api.ErrUnknown))
	for _, x := range wrongJournals() {
		same(t, "Story of a wrong journal", all(headend.Story(x.l, "")), all([]api.Event{}, x.e))
	}
}

// TestStoriesLeadToTheSame replays stories: each leads to the same meter, readings and tokens, all of which are of this meter.
func TestStoriesLeadToTheSame(t *testing.T) {
	r := rand.New(rand.NewSource(4))
	for range 60 {
		l := randomJournal(r, 120)
		x := replay(l)
		about := 0
		for _, m := range x.Meters {
			story, e := headend.Story(l, m.Name)
			same(t, "Story", e, api.OK)
			got := registerOf(t, story)
			x := replay(l)
			x.Readings = slices.DeleteFunc(x.Readings, func(y headend.Reading) bool { return y.Meter != m.Name })
			x.Tokens = slices.DeleteFunc(x.Tokens, func(y headend.Token) bool { return y.Meter != m.Name })
			same(t, "the offices, the meter, the readings and the tokens", all(got.Offices, got.Meters, got.Readings, got.Tokens, len(got.Tariffs)), all(x.Offices, []headend.Meter{m}, x.Readings, x.Tokens, 0))
			about += len(story) - len(x.Offices)
		}
		same(t, "each event is in the story of one meter", about, len(counting(l))-len(x.Offices)-len(x.Tariffs))
	}
}
