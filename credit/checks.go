package credit

import (
	"kilovar/api"
	"kilovar/common"
)

// maxShare is the greatest percentage of a token.
const maxShare = 100

// CheckAccount returns the first error of an account, or OK.
func CheckAccount(a Account) api.Errno {
	order := common.Rising()
	return common.First(
		common.Within(a.Balance, -api.MaxMoney, api.MaxMoney),
		common.Within(a.Debt, 0, api.MaxMoney),
		common.Within(a.Share, 0, maxShare),
		common.Within(a.Emergency, 0, MaxAmount),
		common.FailIf(!a.Changing && a.New != api.Key{}, api.ErrForm),
		common.AtMost(a.Used, MaxUsed, func(number int) api.Errno {
			return common.First(checkNumber(number), order(number))
		}),
	)
}

// checkNumber returns the error of the number of a token, or OK.
func checkNumber(number int) api.Errno {
	return common.Within(number, 1, api.MaxNumber)
}

func checkToken(t Token) api.Errno {
	return common.First(checkNumber(t.Number), common.Within(t.Amount, 1, MaxAmount))
}

// CheckHours returns the first error of hours, or OK.
func CheckHours(l []Hours) api.Errno {
	return common.AtMost(l, MaxHours, func(h Hours) api.Errno {
		return common.FailIf(h.Span.From < 0 || h.Span.From >= h.Span.To || h.Span.To > Day, api.ErrSpan)
	})
}

func checkTick(tick int) api.Errno {
	return common.Within(tick, 0, api.MaxTick)
}

// CheckSwitch returns the first error of a switch, or OK.
func CheckSwitch(s Switch) api.Errno {
	i := -1
	return common.First(
		common.FailIf(s.On && s.Ready || !s.On && len(s.Orders) > 0, api.ErrState),
		common.AtMost(s.Orders, MaxOrders, func(o Order) api.Errno {
			i++
			before := s.Orders[:i]
			return common.First(
				common.Name(o.Office),
				common.FailIf(isOrderedBy(before, o.Office), api.ErrTwice),
				checkTick(o.Tick),
				checkBehind(before, o.Tick),
			)
		}),
	)
}

// checkBehind returns ErrOrder if a tick is before that of the last one of some orders, or OK.
func checkBehind(l []Order, tick int) api.Errno {
	n := len(l)
	return common.FailIf(n > 0 && tick < l[n-1].Tick, api.ErrOrder)
}
