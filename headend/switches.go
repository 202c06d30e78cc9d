package headend

import (
	"kilovar/api"
	"kilovar/common"
)

// isFresh reports whether a meter is armed or ordered, freshly at a tick. What is ordered is armed.
func (m Meter) isFresh(tick int) bool {
	return m.Armed != "" && tick-m.Since <= Fresh
}

func isQuiet(tick int) bool {
	return tick%Day < Quiet
}

// hold is what holds a meter from being cut: its word, the error of a cut, and whether it applies.
type hold struct {
	word    string
	refusal api.Errno
	applies func(m Meter, tick int) bool
}

// holds returns all that may hold a meter, in its order.
func holds() [5]hold {
	return [5]hold{
		{word: "cut", refusal: api.ErrState, applies: func(m Meter, tick int) bool { return m.Cut }},
		{word: "order", refusal: api.ErrState, applies: func(m Meter, tick int) bool { return m.Ordered == "" }},
		{word: "old", refusal: api.ErrOld, applies: func(m Meter, tick int) bool { return m.Ordered != "" && !m.isFresh(tick) }},
		{word: "quiet", refusal: api.ErrHeld, applies: func(m Meter, tick int) bool { return isQuiet(tick) }},
		{word: "credit", refusal: api.ErrRule, applies: func(m Meter, tick int) bool { return m.Credit > 0 }},
	}
}

// holdsAt returns what holds a meter at a tick.
func (m Meter) holdsAt(tick int) []hold {
	var out []hold
	for _, h := range holds() {
		if h.applies(m, tick) {
			out = append(out, h)
		}
	}
	return out
}

// Barrier returns what holds a meter from being cut at a tick.
func Barrier(l []api.Event, meter string, tick int) ([]string, api.Errno) {
	r, _, e := Replay(l)
	if e = common.First(e, r.checkMeter(meter), checkTick(tick), common.FailIf(tick < r.Tick, api.ErrState)); e != api.OK {
		return nil, e
	}
	return common.Mapped(found(r.Meters, meter).holdsAt(tick), func(h hold) string { return h.word }), api.OK
}

func (x act) refuseArm() api.Errno {
	m := x.meter()
	return common.First(common.FailIf(m.Cut, api.ErrState), common.FailIf(m.isFresh(x.tick()), api.ErrTwice))
}

func (x act) afterArm() Register {
	return x.withMeter(func(m *Meter) { m.Armed, m.Ordered, m.Since = x.Names[0], "", x.tick() })
}

func (x act) refuseOrder() api.Errno {
	m := x.meter()
	return common.First(
		common.FailIf(m.Armed == "" || m.Cut, api.ErrState),
		common.FailIf(m.Ordered != "", api.ErrTwice),
		common.FailIf(m.Armed == x.Names[0], api.ErrRight),
		common.FailIf(!m.isFresh(x.tick()), api.ErrOld),
	)
}

func (x act) afterOrder() Register {
	return x.withMeter(func(m *Meter) { m.Ordered, m.Since = x.Names[0], x.tick() })
}

func (x act) refuseCut() api.Errno {
	return common.Each(x.meter().holdsAt(x.tick()), func(h hold) api.Errno { return h.refusal })
}

func (x act) afterCut() Register {
	return x.withMeter(func(m *Meter) {
		m.Cut = true
		m.Armed, m.Ordered, m.Since = "", "", 0
	})
}

func (x act) refuseRestore() api.Errno {
	return common.FailIf(!x.meter().Cut, api.ErrState)
}

func (x act) afterRestore() Register {
	return x.withMeter(func(m *Meter) { m.Cut = false })
}
