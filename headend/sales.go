package headend

import (
	"slices"

	"kilovar/api"
	"kilovar/common"
)

func (x act) refuseTariff() api.Errno {
	from, price := x.Values[1], x.Values[2]
	isBefore := func(t Tariff) bool { return t.From < from }
	return common.First(
		common.Within(price, 0, MaxPrice),
		common.FailIf(from < x.tick()+Notice, api.ErrShort),
		common.FailIf(!x.endsWith(isBefore), api.ErrOrder),
		full(x.Tariffs, MaxTariffs),
	)
}

// endsWith reports whether the last tariff has a property, or there is none.
func (r Register) endsWith(has func(t Tariff) bool) bool {
	last := len(r.Tariffs) - 1
	return last < 0 || has(r.Tariffs[last])
}

func (x act) afterTariff() Register {
	x.Tariffs = longer(x.Tariffs, Tariff{Name: x.Names[0], From: x.Values[1], Price: x.Values[2]})
	return x.Register
}

func (x act) refuseToken() api.Errno {
	return common.First(common.Within(x.Values[1], 1, MaxAmount), full(x.Tokens, MaxTokens))
}

func (x act) afterToken() Register {
	x.Tokens = longer(x.Tokens, Token{Name: x.Names[0], Meter: x.Names[1], Amount: x.Values[1]})
	return x.Register
}

// isUsed reports whether a token is used.
func (t Token) isUsed() bool {
	return t.Used
}

func (x act) refuseUse() api.Errno {
	return common.FailIf(x.token().isUsed(), api.ErrTwice)
}

func (x act) afterUse() Register {
	used := x.token()
	x.Tokens = changed(x.Tokens, used.Name, func(t *Token) { t.Used = true })
	x.Meters = changed(x.Meters, used.Meter, func(m *Meter) { m.Credit += used.Amount })
	return x.Register
}

func (x act) refuseSpend() api.Errno {
	amount := x.Values[1]
	return common.First(common.FailIf(amount == 0, api.ErrRange), common.FailIf(amount > x.meter().Credit, api.ErrShort))
}

func (x act) afterSpend() Register {
	return x.withMeter(func(m *Meter) { m.Credit -= x.Values[1] })
}

// Price returns the price at a tick.
func Price(l []api.Event, tick int) (int, api.Errno) {
	r, e := asked(l, tick)
	if e != api.OK {
		return 0, e
	}
	for _, t := range slices.Backward(r.Tariffs) {
		if t.From <= tick {
			return t.Price, api.OK
		}
	}
	return 0, api.ErrNone
}

// Credit returns the credit of a meter.
func Credit(l []api.Event, meter string) (int, api.Errno) {
	r, _, e := Replay(l)
	return found(r.Meters, meter).Credit, common.First(e, r.checkMeter(meter))
}
