package headend_test

import (
	"math/rand"
	"strconv"
	"strings"
	"testing"

	"kilovar/api"
	"kilovar/headend"
)

// P10.4: New, Open, Do, Events and Log

// done is a line of the console, its result, and its error.
type done struct {
	line, result string
	e            api.Errno
}

func carryOut(t *testing.T, s *headend.Session, l ...done) {
	t.Helper()
	for _, x := range l {
		same(t, "Do "+strconv.Quote(x.line), all(s.Do(x.line)), all(x.result, x.e))
	}
}

// refused are lines with one error.
func refused(t *testing.T, s *headend.Session, e api.Errno, lines ...string) {
	t.Helper()
	before := all(s.Events(), s.Log())
	for _, line := range lines {
		carryOut(t, s, done{line, "", e})
	}
	same(t, "what an error changes", all(s.Events(), s.Log()), before)
}

// opened returns the session with the events of the examples.
func opened(t *testing.T) *headend.Session {
	t.Helper()
	s, e := headend.Open(logOf(shown()))
	if e != api.OK || s == nil {
		t.Fatalf("Open returns the error %d", e)
	}
	return s
}

func TestNew(t *testing.T) {
	for _, s := range []*headend.Session{headend.New(), new(headend.Session)} {
		same(t, "a new session", all(s.Events(), s.Log()), all([]api.Event{}, ""))
		carryOut(t, s, done{"open", "none", 0}, done{"missing", "none", 0}, done{"dark", "none", 0}, done{"version", "none", 0}, done{"unused", "none", 0}, done{"credit m", "", api.ErrUnknown}, done{"undo", "", api.ErrEmpty}, done{"office a 5", "done 1", 0})
		same(t, "one event", all(s.Events(), s.Log()), all(journal("office a 5"), recordOf("1 office a 5")))
	}
}

func TestNoSession(t *testing.T) {
	var s *headend.Session
	for _, line := range []string{"", "open", "office a 0", "x", strings.Repeat("a", 5000)} {
		same(t, "Do", all(s.Do(line)), all("", api.ErrState))
	}
	same(t, "Events and Log", all(s.Events(), s.Log()), all([]api.Event{}, ""))
}

func TestOpen(t *testing.T) {
	log := logOf(shown())
	same(t, "Events and Log", all(opened(t).Events(), opened(t).Log()), all(shown(), log))
	for _, rest := range []string{"8", "8 undo", strings.TrimSuffix(recordOf("8 undo"), "\n"), "#", "\x00"} {
		s, e := headend.Open(log + rest)
		same(t, "torn", e, api.OK)
		same(t, "Log", s.Log(), log)
		carryOut(t, s, done{"undo", "done 8", 0})
		same(t, "Log", s.Log(), log+recordOf("8 undo"))
	}
	for _, x := range []struct {
		log string
		e   api.Errno
	}{
		{log + "\n", api.ErrSyntax}, {log + "#0000000\n", api.ErrCheck}, {log + log, api.ErrOrder}, {strings.Repeat("a", 1000001), api.ErrLong},
		{recordOf("1 undo"), api.ErrEmpty}, {recordOf("1 office a 0") + recordOf("2 office a 0"), api.ErrTwice}, {log + recordOf("8 office c 20"), api.ErrState}, {log + recordOf("8 office c 20") + "9", api.ErrState}, {log + recordOf("8 office c 20") + "\n", api.ErrSyntax},
	} {
		s, e := headend.Open(x.log)
		same(t, "Open", all(s == nil, e), all(true, x.e))
	}
	s, e := headend.Open("")
	same(t, "an empty log", all(s.Log(), e), all("", api.OK))
	s, e = headend.Open("torn")
	same(t, "a torn log alone", all(s.Log(), e), all("", api.OK))
}

func TestQuestionsOfTheConsole(t *testing.T) {
	s := opened(t)
	carryOut(t, s, done{"credit m", "0", 0}, done{"hops m", "3", 0}, done{"state r", "missing 40", 0}, done{"open", "none", 0}, done{"missing", "r", 0}, done{"dark", "none", 0}, done{"version", "none", 0}, done{"unused", "none", 0},
		done{"due q m 21 30", "done 8", 0}, done{"due s m 21 25", "done 9", 0}, done{"open", "q s", 0}, done{"state q", "open 0", 0},
		done{"try q 22", "done 10", 0}, done{"done q 22 7", "done 11", 0}, done{"state q", "done 7", 0}, done{"open", "s", 0}, done{"miss s 26 8", "done 12", 0}, done{"missing", "r s", 0},
		done{"done r 26 41", "done 13", 0}, done{"state r", "late 41", 0}, done{"missing", "s", 0},
		done{"tariff t 26 126 5", "done 14", 0}, done{"version", "t", 0}, done{"tariff u 26 200 5", "done 15", 0}, done{"version", "u", 0}, done{"undo", "done 16", 0}, done{"version", "t", 0},
		done{"token k m 27 500", "done 17", 0}, done{"token l m 27 5", "done 18", 0}, done{"unused", "k l", 0}, done{"use k 27", "done 19", 0}, done{"unused", "l", 0}, done{"credit m", "500", 0}, done{"spend m 27 500", "done 20", 0},
		done{"meter n 28", "done 21", 0}, done{"hops n", "0", 0}, done{"arm a m 290", "done 22", 0}, done{"order b m 290", "done 23", 0}, done{"cut m 300", "done 24", 0}, done{"dark", "m", 0}, done{"arm a n 300", "done 25", 0}, done{"order b n 300", "done 26", 0}, done{"cut n 300", "done 27", 0}, done{"dark", "m n", 0}, done{"restore m 301", "done 28", 0}, done{"dark", "n", 0})
	refused(t, s, api.ErrUnknown, "credit a", "credit r", "credit \n", "hops q", "hops M", "state m", "state x", "state \x00")
	refused(t, s, api.ErrSyntax, "credit", "credit ", "credit  ", "credit  m", "credit m ", "credit m m", "credit x y", "hops", "hops m n", "state", "state ", "state r r", "open ", "open r", "open  ", "missing r", "missing ", "dark m", "dark ", "version t", "version ", "unused k", "unused ")
	refused(t, s, api.ErrKind, " ", " open", "open\n", "Open", "opened", "credits m", "none", "\n", "undo\n", "office\ta 301", "Office a 301", "\xff", strings.Repeat("a", 4096))
}

func TestEventsOfTheConsole(t *testing.T) {
	s := opened(t)
	refused(t, s, api.ErrSyntax, "", "office", "office ", "office c", "office c ", "office 30", "office c  30", "office  c 30", "office  30", "office c 30 ", "office c 30 1", "office c d 30", "office c 030", "office c -1", "office c +1", "office c 1000000000", "office c x", "office c 3x", "office c 30\n", "undo ", "undo 1", "undo undo", "due q m 30", "due q 30 40", "due q m 30 40 50", "route m 30 -1", "tariff t 30 200", "arm a 30")
	refused(t, s, api.ErrName, "office 9 30", "office _ 30", "office c\n 30", "office \xff 30", "office c# 30", "office "+strings.Repeat("a", 25)+" 30", "due 8 9 0 0", "arm x 9 0")
	refused(t, s, api.ErrState, "office c 20", "office a 20", "cut m 300", "cut m 20", "order b m 30", "restore m 30")
	refused(t, s, api.ErrTwice, "office a 21", "meter m 21", "due r m 21 20", "miss r 22 41")
	refused(t, s, api.ErrUnknown, "route x 30 16", "try x 30", "use k 30")
	refused(t, s, api.ErrRange, "route m 30 16", "done r 30 1000000", "spend m 30 0")
	refused(t, s, api.ErrKind, "8 office c 30", "offices c 30", " office c 30", "OFFICE c 30")
	carryOut(t, s, done{"office c 30", "done 8", 0}, done{"office d 999999999", "done 9", 0}, done{"office e 999999998", "", api.ErrState}, done{"undo", "done 10", 0}, done{"office e 30", "done 11", 0})
	same(t, "Events", s.Events(), shown("office c 30", "office d 999999999", "undo", "office e 30"))
}

func TestLongLines(t *testing.T) {
	s := headend.New()
	refused(t, s, api.ErrLong, strings.Repeat("a", 4097), "open "+strings.Repeat(" ", 4092), "office "+strings.Repeat("a", 4088)+" 0")
	refused(t, s, api.ErrSyntax, "open "+strings.Repeat(" ", 4091), "open "+strings.Repeat("a", 4091))
	refused(t, s, api.ErrUnknown, "credit "+strings.Repeat("a", 4089))
	refused(t, s, api.ErrName, "office "+strings.Repeat("a", 4087)+" 0")
}

func TestAtMostSoManyEventsOfASession(t *testing.T) {
	s, e := headend.Open(logOf(fullJournal(999)))
	same(t, "Open", e, api.OK)
	carryOut(t, s, done{"route m 998 5", "done 1000", 0})
	refused(t, s, api.ErrMany, "undo", "office a 999", "office 9 0", "route x 0 16", "office a 0")
	refused(t, s, api.ErrSyntax, "undo ", "office a", "office a 1000000000")
	carryOut(t, s, done{"hops m", "5", 0}, done{"dark", "none", 0})
	again, e := headend.Open(s.Log())
	same(t, "Open", all(again.Events(), e), all(s.Events(), api.OK))
}

// TestEventsAreNew spoils the events that a session returns: it has others.
func TestEventsAreNew(t *testing.T) {
	s := opened(t)
	spoil(s.Events())
	same(t, "Events", s.Events(), shown())
	one, two := opened(t), opened(t)
	carryOut(t, one, done{"office c 30", "done 8", 0})
	same(t, "another session", two.Events(), shown())
}

// TestRandomSessions carries out random lines, and compares sessions with the model: their results, their events, and those of sessions that are opened again.
func TestRandomSessions(t *testing.T) {
	r := rand.New(rand.NewSource(8))
	begin := []string{"undo", "meter m 0", "office a 0", "office b 0", "office b 0"}
	for range 40 {
		s, l := headend.New(), []api.Event(nil)
		for i := range 150 {
			line := randomLine(r, replay(l))
			if i < len(begin) {
				line = begin[i]
			}
			e := eventOf(len(l)+1, line)
			want, result := refusal(l, e), ""
			if want == api.OK {
				l = append(l, e)
				result = "done " + strconv.Itoa(len(l))
			}
			carryOut(t, s, done{line, result, want})
			if r.Intn(10) == 0 {
				again, e := headend.Open(s.Log() + pick(r, "", "1", "office", strconv.Itoa(len(l)+1)+" undo"))
				same(t, "Open", e, api.OK)
				s = again
			}
			answers(t, s, replay(l))
		}
		same(t, "Events and Log", all(s.Events(), s.Log()), all(l, logOf(l)))
	}
}

// answers compares the answers to all questions with a register.
func answers(t *testing.T, s *headend.Session, x headend.Register) {
	t.Helper()
	var open, missing, dark, version, unused []string
	for _, y := range x.Readings {
		carryOut(t, s, done{"state " + y.Name, y.State + " " + strconv.Itoa(y.Units), 0})
		switch y.State {
		case "open":
			open = append(open, y.Name)
		case "missing":
			missing = append(missing, y.Name)
		}
	}
	for _, y := range x.Meters {
		carryOut(t, s, done{"credit " + y.Name, strconv.Itoa(y.Credit), 0}, done{"hops " + y.Name, strconv.Itoa(y.Hops), 0})
		if y.Cut {
			dark = append(dark, y.Name)
		}
	}
	for _, y := range x.Tariffs {
		version = []string{y.Name}
	}
	for _, y := range x.Tokens {
		if !y.Used {
			unused = append(unused, y.Name)
		}
	}
	for question, words := range map[string][]string{"open": open, "missing": missing, "dark": dark, "version": version, "unused": unused} {
		if len(words) == 0 {
			words = []string{"none"}
		}
		carryOut(t, s, done{question, strings.Join(words, " "), 0})
	}
}
