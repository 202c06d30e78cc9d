package headend

import (
	"slices"
	"strconv"
	"strings"

	"kilovar/api"
	"kilovar/common"
)

// Session is a journal that is written line by line.
type Session struct {
	history
}

// New returns a session without events.
func New() *Session {
	return &Session{}
}

// Open returns a session with the events of a log. A record that is torn was not written to its end before a crash: it is left out.
func Open(log string) (*Session, api.Errno) {
	l, _, e := Recover(log)
	if e != api.OK && e != api.ErrTorn {
		return nil, e
	}
	h, _, e := replayed(l)
	if e != api.OK {
		return nil, e
	}
	return &Session{history: h}, api.OK
}

// Do carries out a line, and returns its result.
func (s *Session) Do(line string) (string, api.Errno) {
	if s == nil {
		return "", api.ErrState
	}
	if e := common.First(common.FailIf(len(line) > api.MaxText, api.ErrLong), common.FailIf(line == "", api.ErrSyntax)); e != api.OK {
		return "", e
	}
	all := allKinds()
	take := common.WordsIn(line).Take
	word, _ := take()
	if _, known := all[word]; known {
		return s.add(all, line)
	}
	if q, known := questions()[word]; known {
		return q.answered(s.register(), take)
	}
	return "", api.ErrKind
}

// add adds the event of a line.
func (s *Session) add(all kinds, line string) (string, api.Errno) {
	x, ok := all.read(common.WordsIn(line).Take)
	x.Number = len(s.events) + 1
	e := common.First(
		common.FailIf(!ok, api.ErrSyntax),
		common.FailIf(len(s.events) == api.MaxEvents, api.ErrMany),
		all.check(x),
	)
	if e != api.OK {
		return "", e
	}
	if e := all.refusal(s.history, x); e != api.OK {
		return "", e
	}
	s.history = all.added(s.history, x)
	return "done " + strconv.Itoa(x.Number), api.OK
}

// Events returns the events of a session.
func (s *Session) Events() []api.Event {
	if s == nil {
		return nil
	}
	return common.Mapped(s.events, copied)
}

// Log returns the log of a session.
func (s *Session) Log() string {
	if s == nil {
		return ""
	}
	return strings.Join(common.Mapped(s.events, record), "")
}

// question is a question of the console: how many names it has, and the words of its answer.
type question struct {
	names  int
	answer func(r Register, names []string) ([]string, api.Errno)
}

// questions returns all questions by their words.
func questions() map[string]question {
	return map[string]question{
		"credit":  aboutMeter(func(m Meter) int { return m.Credit }),
		"hops":    aboutMeter(func(m Meter) int { return m.Hops }),
		"state":   {names: 1, answer: stateOf},
		"open":    list(func(r Register) []string { return r.namesIn(open) }),
		"missing": list(func(r Register) []string { return r.namesIn(missing) }),
		"dark":    list(Register.dark),
		"version": list(Register.version),
		"unused":  list(Register.unused),
	}
}

// answered returns the answer of a question, whose names are all words that are left.
func (q question) answered(r Register, take common.Taker) (string, api.Errno) {
	names, ok := someWords(take, q.names)
	if _, more := take(); more || !ok {
		return "", api.ErrSyntax
	}
	words, e := q.answer(r, names)
	if e != api.OK {
		return "", e
	}
	if len(words) == 0 {
		return "none", api.OK
	}
	return strings.Join(words, " "), api.OK
}

// aboutMeter returns the question for a number of a meter.
func aboutMeter(number func(m Meter) int) question {
	return question{names: 1, answer: func(r Register, names []string) ([]string, api.Errno) {
		return []string{strconv.Itoa(number(found(r.Meters, names[0])))}, r.checkMeter(names[0])
	}}
}

// list returns the question for words of a register.
func list(words func(r Register) []string) question {
	return question{answer: func(r Register, names []string) ([]string, api.Errno) { return words(r), api.OK }}
}

// stateOf returns the state and the units of a reading.
func stateOf(r Register, names []string) ([]string, api.Errno) {
	x := found(r.Readings, names[0])
	return []string{x.State, strconv.Itoa(x.Units)}, common.FailIf(!r.hasReading(names[0]), api.ErrUnknown)
}

// namesIn returns the names of the readings that have the state with an index.
func (r Register) namesIn(state int) []string {
	var out []string
	for x := range r.in(state) {
		out = append(out, x.Name)
	}
	return out
}

// isLit reports whether a meter is not cut.
func (m Meter) isLit() bool {
	return !m.Cut
}

// dark returns the names of the meters that are cut.
func (r Register) dark() []string {
	return common.Mapped(slices.DeleteFunc(slices.Clone(r.Meters), Meter.isLit), Meter.name)
}

// version returns the name of the last tariff, if there is one.
func (r Register) version() []string {
	return common.Mapped(r.Tariffs[max(0, len(r.Tariffs)-1):], Tariff.name)
}

// unused returns the names of the tokens that are not used.
func (r Register) unused() []string {
	return common.Mapped(slices.DeleteFunc(slices.Clone(r.Tokens), Token.isUsed), Token.name)
}
