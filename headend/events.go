package headend

import (
	"kilovar/api"
	"kilovar/common"
)

// undo is the kind of events that take another one back; all other events have a tick.
const undo = "undo"

// act is an event upon the register before it.
type act struct {
	Register
	api.Event
}

// tick returns the tick at which an act happens.
func (x act) tick() int {
	return x.Values[0]
}

// place is where names stand in a register: it reports whether one does.
type place func(r Register, name string) bool

// kind is a kind of events: where its first name must not stand yet, if it adds something; where its other names have to stand; how many values it has; why an act of it is refused; the register after it; whether it is about a meter, by the last register; and whether it is final, so that it cannot be taken back.
type kind struct {
	adds    place
	knows   []place
	values  int
	refuse  func(x act) api.Errno
	after   func(x act) Register
	isAbout func(x act, meter string) bool
	final   bool
}

// names returns how many names an event of a kind has.
func (k kind) names() int {
	if k.adds == nil {
		return len(k.knows)
	}
	return 1 + len(k.knows)
}

// kinds has the kinds of events by their words.
type kinds map[string]kind

// allKinds returns all kinds of events.
func allKinds() kinds {
	meter, reading, token := []place{Register.hasMeter}, []place{Register.hasReading}, []place{Register.hasToken}
	officeAndMeter := []place{Register.hasOffice, Register.hasMeter}
	return kinds{
		"office":  {adds: Register.hasOffice, values: 1, refuse: act.refuseOffice, after: act.afterOffice, isAbout: act.isAboutAll},
		"meter":   {adds: Register.hasMeter, values: 1, refuse: act.refuseMeter, after: act.afterMeter, isAbout: act.namesMeter},
		"route":   {knows: meter, values: 2, refuse: act.refuseRoute, after: act.afterRoute, isAbout: act.namesMeter},
		"due":     {adds: Register.hasReading, knows: meter, values: 2, refuse: act.refuseDue, after: act.afterDue, isAbout: act.namesMeter},
		"try":     {knows: reading, values: 1, refuse: act.refuseTry, after: act.afterTry, isAbout: act.readsMeter},
		"done":    {knows: reading, values: 2, refuse: act.refuseDone, after: act.afterDone, isAbout: act.readsMeter},
		"miss":    {knows: reading, values: 2, refuse: act.refuseMiss, after: act.afterMiss, isAbout: act.readsMeter},
		"tariff":  {adds: Register.hasTariff, values: 3, refuse: act.refuseTariff, after: act.afterTariff, isAbout: act.isAboutNone},
		"token":   {adds: Register.hasToken, knows: meter, values: 2, refuse: act.refuseToken, after: act.afterToken, isAbout: act.namesMeter},
		"use":     {knows: token, values: 1, refuse: act.refuseUse, after: act.afterUse, isAbout: act.creditsMeter, final: true},
		"spend":   {knows: meter, values: 2, refuse: act.refuseSpend, after: act.afterSpend, isAbout: act.namesMeter},
		"arm":     {knows: officeAndMeter, values: 1, refuse: act.refuseArm, after: act.afterArm, isAbout: act.namesMeter},
		"order":   {knows: officeAndMeter, values: 1, refuse: act.refuseOrder, after: act.afterOrder, isAbout: act.namesMeter},
		"cut":     {knows: meter, values: 1, refuse: act.refuseCut, after: act.afterCut, isAbout: act.namesMeter, final: true},
		"restore": {knows: meter, values: 1, refuse: act.refuseRestore, after: act.afterRestore, isAbout: act.namesMeter, final: true},
		undo:      {},
	}
}

// check returns the first error of an event by itself, or OK.
func (all kinds) check(e api.Event) api.Errno {
	k, known := all[e.Kind]
	return common.First(
		common.Within(e.Number, 1, api.MaxEvents),
		common.FailIf(!known, api.ErrKind),
		common.FailIf(len(e.Names) != k.names() || len(e.Values) != k.values, api.ErrShape),
		common.Each(e.Names, common.Name),
		common.Each(e.Values, common.In(0, api.MaxNumber)),
		common.FailIf(e.Text != "", api.ErrForm),
	)
}

// CheckEvent returns the first error of an event by itself, or OK.
func CheckEvent(e api.Event) api.Errno {
	return allKinds().check(e)
}

// checkNames returns ErrUnknown if a name does not stand where it has to, then ErrTwice if one stands where it must not, or OK.
func (x act) checkNames(k kind) api.Errno {
	known := x.Names[k.names()-len(k.knows):]
	for i, stands := range k.knows {
		if !stands(x.Register, known[i]) {
			return api.ErrUnknown
		}
	}
	return common.FailIf(k.adds != nil && k.adds(x.Register, x.Names[0]), api.ErrTwice)
}

// namesMeter reports whether the last name of an act is that of a meter.
func (x act) namesMeter(meter string) bool {
	return x.Names[len(x.Names)-1] == meter
}

// readsMeter reports whether the reading of an act is one of a meter.
func (x act) readsMeter(meter string) bool {
	return x.reading().Meter == meter
}

// creditsMeter reports whether the token of an act is one of a meter.
func (x act) creditsMeter(meter string) bool {
	return x.token().Meter == meter
}

// isAboutAll is for acts that are in the stories of all meters.
func (x act) isAboutAll(string) bool {
	return true
}

// isAboutNone is for acts that are in the story of no meter.
func (x act) isAboutNone(string) bool {
	return false
}
