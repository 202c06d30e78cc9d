package headend

import (
	"slices"

	"kilovar/api"
	"kilovar/common"
)

// moment is an event that counts, and the register after it.
type moment struct {
	api.Event
	after Register
}

// history is events, and those of them that count.
type history struct {
	events  []api.Event
	moments []moment
}

// register returns the register of a history.
func (h history) register() Register {
	if last := len(h.moments) - 1; last >= 0 {
		return h.moments[last].after
	}
	return Register{}
}

// refusal returns the error with which an event is not accepted after a history, or OK. By itself the event has none.
func (all kinds) refusal(h history, e api.Event) api.Errno {
	if e.Number != len(h.events)+1 {
		return api.ErrOrder
	}
	if e.Kind == undo {
		return all.refuseUndo(h)
	}
	k, x := all[e.Kind], act{Register: h.register(), Event: e}
	return common.First(
		common.FailIf(x.tick() < x.Tick, api.ErrState),
		x.checkNames(k),
		k.refuse(x),
	)
}

// refuseUndo returns the error with which the last event that counts cannot be taken back, or OK.
func (all kinds) refuseUndo(h history) api.Errno {
	last := len(h.moments) - 1
	if last < 0 {
		return api.ErrEmpty
	}
	return common.FailIf(all[h.moments[last].Kind].final, api.ErrRule)
}

// added returns a history with a further event, which is accepted after it.
func (all kinds) added(h history, e api.Event) history {
	out := history{events: append(h.events, e)}
	if e.Kind == undo {
		out.moments = h.moments[:len(h.moments)-1]
		return out
	}
	x := act{Register: h.register(), Event: e}
	after := all[e.Kind].after(x)
	after.Tick = x.tick()
	out.moments = append(h.moments, moment{Event: e, after: after})
	return out
}

// replayed returns the history of events, or the number of the first one that is wrong.
func replayed(l []api.Event) (history, int, api.Errno) {
	if len(l) > api.MaxEvents {
		return history{}, 0, api.ErrMany
	}
	all := allKinds()
	var h history
	for i, x := range l {
		e := all.check(x)
		if e == api.OK { // what has errors by itself may lack what a refusal reads
			e = all.refusal(h, x)
		}
		if e != api.OK {
			return history{}, i + 1, e
		}
		h = all.added(h, x)
	}
	return h, 0, api.OK
}

// Replay returns the register after events, or the number of the first one that is wrong.
func Replay(l []api.Event) (Register, int, api.Errno) {
	h, number, e := replayed(l)
	return h.register(), number, e
}

// Accepts returns OK for an event that is accepted after events.
func Accepts(l []api.Event, e api.Event) api.Errno {
	h, _, wrong := replayed(l)
	if wrong = common.First(wrong, CheckEvent(e), common.FailIf(len(l) == api.MaxEvents, api.ErrMany)); wrong != api.OK {
		return wrong
	}
	return allKinds().refusal(h, e)
}

// checkTick returns ErrRange if a question is about no tick, or OK.
func checkTick(tick int) api.Errno {
	return common.Within(tick, 0, api.MaxNumber)
}

// AsOf returns the register after those events that count and happened up to a tick.
func AsOf(l []api.Event, tick int) (Register, api.Errno) {
	h, _, e := replayed(l)
	if e = common.First(e, checkTick(tick)); e != api.OK {
		return Register{}, e
	}
	isLater := func(m moment) bool { return m.after.Tick > tick }
	if later := slices.IndexFunc(h.moments, isLater); later >= 0 { // no event that counts is before one before it
		h.moments = h.moments[:later]
	}
	return h.register(), api.OK
}

// Story returns the story of a meter.
func Story(l []api.Event, meter string) ([]api.Event, api.Errno) {
	h, _, e := replayed(l)
	last := h.register()
	if e = common.First(e, last.checkMeter(meter)); e != api.OK {
		return nil, e
	}
	all := allKinds()
	var out []api.Event
	for _, m := range h.moments {
		if all[m.Kind].isAbout(act{Register: last, Event: m.Event}, meter) {
			x := copied(m.Event)
			x.Number = len(out) + 1
			out = append(out, x)
		}
	}
	return out, api.OK
}

// copied returns the same event in new memory.
func copied(e api.Event) api.Event {
	e.Names, e.Values = slices.Clone(e.Names), slices.Clone(e.Values)
	return e
}
