package credit

import (
	"slices"

	"kilovar/api"
	"kilovar/common"
)

// copied returns the same account in new memory.
func (a Account) copied() Account {
	a.Used = slices.Clone(a.Used)
	return a
}

// credited returns an account after a token with a number and an amount.
func (a Account) credited(number, amount int) Account {
	paid := a.paid(amount)
	out := a.copied()
	out.Debt -= paid
	out.Balance += amount - paid
	out.Used = append(out.Used, number)
	slices.Sort(out.Used)
	return out
}

// Credited returns an account after a token.
func Credited(a Account, t Token) (Account, api.Errno) {
	if e := common.First(CheckAccount(a), checkToken(t), a.checkCredit(t)); e != api.OK {
		return Account{}, e
	}
	return a.credited(t.Number, t.Amount), api.OK
}

// indexed is a token with its index in a list.
type indexed struct {
	Token
	index int
}

// All returns an account after tokens, and the indices of those that are credited.
func All(a Account, l []Token) (Account, []int, api.Errno) {
	if e := common.First(CheckAccount(a), common.AtMost(l, MaxTokens, checkToken)); e != api.OK {
		return Account{}, nil, e
	}
	out := a.copied()
	var taken []indexed
	for i, t := range l {
		x := indexed{Token: t, index: i}
		if out.checkCredit(x.Token) == api.OK {
			out = out.credited(x.Number, x.Amount)
			taken = append(taken, x)
		}
	}
	return out, common.Mapped(taken, func(x indexed) int { return x.index }), api.OK
}

// Spent returns an account that has spent an amount.
func Spent(a Account, amount int) (Account, api.Errno) {
	if e := common.First(CheckAccount(a), common.Within(amount, 0, MaxAmount), common.FailIf(a.Balance-amount < -api.MaxMoney, api.ErrLarge)); e != api.OK {
		return Account{}, e
	}
	out := a.copied()
	out.Balance -= amount
	return out, api.OK
}

// left returns what is left of an account.
func (a Account) left() int {
	return a.Balance + a.Emergency
}

// Left returns what is left of an account.
func Left(a Account) (int, api.Errno) {
	if e := CheckAccount(a); e != api.OK {
		return 0, e
	}
	return a.left(), api.OK
}

// Exhausted reports whether an account is exhausted.
func Exhausted(a Account) (bool, api.Errno) {
	left, e := Left(a)
	return left < 0, e
}

// Begun returns an account with a new key.
func Begun(a Account, key api.Key) (Account, api.Errno) {
	if e := common.First(CheckAccount(a), common.FailIf(a.Changing, api.ErrState), common.FailIf(key == a.Key, api.ErrTwice)); e != api.OK {
		return Account{}, e
	}
	out := a.copied()
	out.New, out.Changing = key, true
	return out, api.OK
}

// Finished returns an account whose key is changed.
func Finished(a Account) (Account, api.Errno) {
	if e := common.First(CheckAccount(a), common.FailIf(!a.Changing, api.ErrState)); e != api.OK {
		return Account{}, e
	}
	out := a.copied()
	out.Key, out.New, out.Changing = a.New, api.Key{}, false
	return out, api.OK
}
