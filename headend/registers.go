package headend

import (
	"slices"

	"kilovar/api"
	"kilovar/common"
)

// named is what has a name.
type named interface {
	name() string
}

func (m Meter) name() string { return m.Name }

func (r Reading) name() string { return r.Name }

func (t Tariff) name() string { return t.Name }

func (t Token) name() string { return t.Name }

// found returns the element of a list with a name, or the zero value, which has none.
func found[T named](l []T, name string) T {
	for _, x := range l {
		if x.name() == name {
			return x
		}
	}
	var none T
	return none
}

// changed returns a copy of a list, in which the element with a name is changed.
func changed[T named](l []T, name string, change func(x *T)) []T {
	out := make([]T, len(l))
	copy(out, l)
	for i, x := range out {
		if x.name() == name {
			change(&out[i])
		}
	}
	return out
}

// longer returns a copy of a list, with a further element. Registers share what is not changed, so that no list grows in place.
func longer[T any](l []T, x T) []T {
	return append(slices.Clip(l), x)
}

// full returns ErrMany if a list has as many elements as it may have, or OK.
func full[T any](l []T, limit int) api.Errno {
	return common.FailIf(len(l) >= limit, api.ErrMany)
}

func (r Register) hasOffice(name string) bool {
	return slices.Contains(r.Offices, name)
}

func (r Register) hasMeter(name string) bool {
	return found(r.Meters, name) != Meter{}
}

func (r Register) hasReading(name string) bool {
	return found(r.Readings, name) != Reading{}
}

func (r Register) hasTariff(name string) bool {
	return found(r.Tariffs, name) != Tariff{}
}

func (r Register) hasToken(name string) bool {
	return found(r.Tokens, name) != Token{}
}

// checkMeter returns ErrUnknown if there is no meter with a name, or OK.
func (r Register) checkMeter(name string) api.Errno {
	return common.FailIf(!r.hasMeter(name), api.ErrUnknown)
}

// meter returns the meter that an act names: its last name.
func (x act) meter() Meter {
	return found(x.Meters, x.Names[len(x.Names)-1])
}

// reading returns the reading that an act names.
func (x act) reading() Reading {
	return found(x.Readings, x.Names[0])
}

// token returns the token that an act names.
func (x act) token() Token {
	return found(x.Tokens, x.Names[0])
}

// withMeter returns the register of an act after a change of the meter that it names.
func (x act) withMeter(change func(m *Meter)) Register {
	x.Meters = changed(x.Meters, x.meter().Name, change)
	return x.Register
}

// withReading returns the register of an act after a change of the reading that it names.
func (x act) withReading(change func(r *Reading)) Register {
	x.Readings = changed(x.Readings, x.reading().Name, change)
	return x.Register
}

func (x act) refuseOffice() api.Errno {
	return full(x.Offices, MaxOffices)
}

func (x act) afterOffice() Register {
	x.Offices = longer(x.Offices, x.Names[0])
	return x.Register
}

func (x act) refuseMeter() api.Errno {
	return full(x.Meters, MaxMeters)
}

func (x act) afterMeter() Register {
	x.Meters = longer(x.Meters, Meter{Name: x.Names[0]})
	return x.Register
}

func (x act) refuseRoute() api.Errno {
	return common.Within(x.Values[1], 0, MaxHops)
}

func (x act) afterRoute() Register {
	return x.withMeter(func(m *Meter) { m.Hops = x.Values[1] })
}
