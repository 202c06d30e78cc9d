package credit

import (
	"kilovar/api"
	"kilovar/common"
)

// enough is the number of offices whose fresh orders open a switch.
const enough = 2

// isOrderedBy reports whether one of some orders is that of an office.
func isOrderedBy(l []Order, office string) bool {
	found := false
search:
	for _, o := range l {
		switch o.Office {
		case office:
			found = true
			break search
		}
	}
	return found
}

// isOfOther reports whether an order is not that of an office.
func (o Order) isOfOther(office string) bool {
	return o.Office != office
}

// isSince reports whether an order was given at a tick or after it.
func (o Order) isSince(tick int) bool {
	return o.Tick >= tick
}

// Ordered returns a switch with an order.
func Ordered(s Switch, office string, tick int) (Switch, api.Errno) {
	others := common.Filtered(s.Orders, Order.isOfOther, office)
	e := common.First(
		CheckSwitch(s),
		common.Name(office),
		checkTick(tick),
		common.FailIf(!s.On, api.ErrState),
		checkBehind(s.Orders, tick),
		common.FailIf(len(others) >= MaxOrders, api.ErrMany),
	)
	if e != api.OK {
		return Switch{}, e
	}
	return Switch{On: true, Orders: append(others, Order{Office: office, Tick: tick})}, api.OK
}

// Withdrawn returns a switch without an order.
func Withdrawn(s Switch, office string) (Switch, api.Errno) {
	if e := common.First(CheckSwitch(s), common.Name(office), common.FailIf(!isOrderedBy(s.Orders, office), api.ErrUnknown)); e != api.OK {
		return Switch{}, e
	}
	return Switch{On: s.On, Orders: common.Filtered(s.Orders, Order.isOfOther, office)}, api.OK
}

// moment is a switch and protected hours at a tick, and for how long orders are fresh.
type moment struct {
	Switch
	hours []Hours
	tick  int
	fresh int
}

// check returns the error of a moment, or OK.
func (m moment) check() api.Errno {
	return common.First(
		CheckSwitch(m.Switch),
		CheckHours(m.hours),
		checkTick(m.tick),
		common.Within(m.fresh, 0, MaxFresh),
		checkBehind(m.Orders, m.tick),
	)
}

func (m moment) isOff() bool {
	return !m.On
}

func (m moment) isProtected() bool {
	return isProtected(m.hours, m.tick)
}

// lacksOffices reports whether too few orders are fresh. Each is of another office.
func (m moment) lacksOffices() bool {
	return len(common.Filtered(m.Orders, Order.isSince, m.tick-m.fresh)) < enough
}

// barrier is what keeps a switch from being opened: its word, the error of Opened, and whether it applies.
type barrier struct {
	word    string
	refusal api.Errno
	applies func(m moment) bool
}

// barriers returns all barriers that there are, in their order.
func barriers() [3]barrier {
	return [3]barrier{
		{word: "off", refusal: api.ErrState, applies: moment.isOff},
		{word: "protected", refusal: api.ErrHeld, applies: moment.isProtected},
		{word: "offices", refusal: api.ErrRight, applies: moment.lacksOffices},
	}
}

// standing returns the barriers of a moment.
func (m moment) standing() ([]barrier, api.Errno) {
	if e := m.check(); e != api.OK {
		return nil, e
	}
	var out []barrier
	for _, b := range barriers() {
		if b.applies(m) {
			out = append(out, b)
		}
	}
	return out, api.OK
}

// Barriers returns why a switch may not be opened.
func Barriers(s Switch, l []Hours, tick, fresh int) ([]string, api.Errno) {
	found, e := moment{Switch: s, hours: l, tick: tick, fresh: fresh}.standing()
	return common.Mapped(found, func(b barrier) string { return b.word }), e
}

// Opened returns a switch that is opened.
func Opened(s Switch, l []Hours, tick, fresh int) (Switch, api.Errno) {
	found, e := moment{Switch: s, hours: l, tick: tick, fresh: fresh}.standing()
	return Switch{}, common.First(e, common.Each(found, func(b barrier) api.Errno { return b.refusal }))
}

// Released returns a switch that may be closed.
func Released(s Switch) (Switch, api.Errno) {
	if e := common.First(CheckSwitch(s), common.FailIf(s.On, api.ErrState), common.FailIf(s.Ready, api.ErrTwice)); e != api.OK {
		return Switch{}, e
	}
	return Switch{Ready: true}, api.OK
}

// Confirmed returns a switch that is closed at the meter.
func Confirmed(s Switch) (Switch, api.Errno) {
	if e := common.First(CheckSwitch(s), common.FailIf(s.On, api.ErrState), common.FailIf(!s.Ready, api.ErrLocked)); e != api.OK {
		return Switch{}, e
	}
	return Switch{On: true}, api.OK
}
