package credit

import (
	"kilovar/api"
	"kilovar/carrier"
	"kilovar/common"
)

const (
	wide  = 4        // the bytes of a number in a block
	plain = 2 * wide // the bytes of a block that are sealed
)

// block returns the block of a token.
func (t Token) block() api.Block {
	var b api.Block
	for i := range wide {
		low := 8 * (wide - 1 - i)
		b[i] = byte(t.Number >> low)
		b[wide+i] = byte(t.Amount >> low)
	}
	copy(b[plain:], t.Seal[:])
	return b
}

// tokenOf returns the token of a block, whatever its numbers are worth.
func tokenOf(b api.Block) Token {
	t := Token{Seal: api.Key(b[plain:])}
	for i := range wide {
		t.Number = t.Number<<8 | int(b[i])
		t.Amount = t.Amount<<8 | int(b[wide+i])
	}
	return t
}

// sealed returns the token with a number and an amount, sealed by a key.
func sealed(key api.Key, number, amount int) Token {
	t := Token{Number: number, Amount: amount}
	b := t.block()
	t.Seal, _ = carrier.Seal(key, b[:plain]) // so few bytes are never too many
	return t
}

// isSealedBy reports whether a token is sealed by a key.
func (t Token) isSealedBy(key api.Key) bool {
	return t == sealed(key, t.Number, t.Amount)
}

// Made returns a token that is sealed by a key.
func Made(key api.Key, number, amount int) (Token, api.Errno) {
	if e := checkToken(Token{Number: number, Amount: amount}); e != api.OK {
		return Token{}, e
	}
	return sealed(key, number, amount), api.OK
}

// Packed returns the block of a token.
func Packed(t Token) (api.Block, api.Errno) {
	if e := checkToken(t); e != api.OK {
		return api.Block{}, e
	}
	return t.block(), api.OK
}

// Unpacked returns the token of a block.
func Unpacked(b api.Block) (Token, api.Errno) {
	t := tokenOf(b)
	if e := checkToken(t); e != api.OK {
		return Token{}, e
	}
	return t, api.OK
}

// isValid reports whether a token is valid for an account.
func (a Account) isValid(t Token) bool {
	return t.isSealedBy(a.Key) || a.Changing && t.isSealedBy(a.New)
}

// paid returns how much of a token with an amount pays the debt of an account.
func (a Account) paid(amount int) int {
	return min(a.Debt, amount*a.Share/100)
}

// isUsed reports whether an account has used a number.
func (a Account) isUsed(number int) bool {
	used := map[int]bool{}
	for _, n := range a.Used {
		used[n] = true
	}
	return used[number]
}

// checkCredit returns why an account is not credited with a token that has no error, or OK.
func (a Account) checkCredit(t Token) api.Errno {
	return common.First(
		common.FailIf(!a.isValid(t), api.ErrCheck),
		common.FailIf(a.isUsed(t.Number), api.ErrTwice),
		common.FailIf(len(a.Used) >= MaxUsed, api.ErrMany),
		common.FailIf(a.Balance+t.Amount-a.paid(t.Amount) > api.MaxMoney, api.ErrLarge),
	)
}
