package credit_test

import (
	"math"
	"math/rand"
	"slices"
	"testing"

	"kilovar/api"
	"kilovar/credit"
)

// P8.1

func TestCheckAccount(t *testing.T) {
	for _, a := range []credit.Account{
		account(), changing(), {}, {Changing: true}, account(1), account(3, 9, 999999999), account(upTo(256)...),
		with(account(), func(a *credit.Account) { a.Balance, a.Debt, a.Share, a.Emergency = -1000000000000, 0, 0, 0 }),
		with(account(), func(a *credit.Account) {
			a.Balance, a.Debt, a.Share, a.Emergency = 1000000000000, 1000000000000, 100, 100000000
		}),
		with(changing(), func(a *credit.Account) { a.New = a.Key }), // nothing rules it out
	} {
		same(t, "CheckAccount", credit.CheckAccount(a), api.OK)
	}
	for e, l := range wrongAccounts() {
		for _, a := range l {
			same(t, "CheckAccount", all(a, credit.CheckAccount(a)), all(a, e))
		}
	}
}

// TestWrongAccounts gives accounts with errors, and further arguments with errors, to all functions that take an account.
func TestWrongAccounts(t *testing.T) {
	for e, l := range wrongAccounts() {
		for _, a := range l {
			check := func(what string, results ...any) {
				t.Helper()
				same(t, what, results, append(zeros(results[:len(results)-1]...), e))
			}
			b, f := credit.Credited(a, credit.Token{})
			check("Credited", b, f)
			b, indices, f := credit.All(a, make([]credit.Token, 257))
			check("All", b, indices, f)
			b, f = credit.Spent(a, -1)
			check("Spent", b, f)
			left, f := credit.Left(a)
			check("Left", left, f)
			is, f := credit.Exhausted(a)
			check("Exhausted", is, f)
			b, f = credit.Begun(a, a.Key)
			check("Begun", b, f)
			b, f = credit.Finished(a)
			check("Finished", b, f)
			tick, f := credit.Cut(a, make([]credit.Hours, 17), -1, 0)
			check("Cut", tick, f)
			s, f := credit.Print(a)
			check("Print", s, f)
		}
	}
}

func TestCredited(t *testing.T) {
	for _, x := range []struct {
		balance, debt, share, amount int
		want                         []int
	}{
		{1000, 500, 40, 1000, ints(1600, 100)}, {1600, 100, 40, 1000, ints(2500, 0)}, // the two tokens of the example
		{0, 500, 0, 1000, ints(1000, 500)}, {0, 500, 100, 300, ints(0, 200)}, {0, 500, 100, 500, ints(0, 0)}, {0, 500, 100, 501, ints(1, 0)}, {0, 0, 100, 7, ints(7, 0)},
		{0, 500, 40, 1, ints(1, 500)}, {0, 500, 40, 2, ints(2, 500)}, {0, 500, 40, 3, ints(2, 499)}, {0, 500, 40, 4, ints(3, 499)}, {0, 500, 40, 5, ints(3, 498)}, {0, 500, 1, 99, ints(99, 500)}, {0, 500, 1, 100, ints(99, 499)}, {0, 500, 99, 1, ints(1, 500)},
		{-1000000000000, 1000000000000, 50, 100000000, ints(-999950000000, 999950000000)}, {-500, 0, 0, 300, ints(-200, 0)},
		{999900000000, 0, 100, 100000000, ints(1000000000000, 0)}, {999999999999, 0, 0, 1, ints(1000000000000, 0)}, {1000000000000, 7, 100, 7, ints(1000000000000, 0)}, {999999999999, 7, 100, 8, ints(1000000000000, 0)},
	} {
		a := credit.Account{Balance: x.balance, Debt: x.debt, Share: x.share, Emergency: 3, Key: k(), Used: ints(3, 9)}
		got, e := credit.Credited(a, made(7, x.amount))
		want := credit.Account{Balance: x.want[0], Debt: x.want[1], Share: x.share, Emergency: 3, Key: k(), Used: ints(3, 7, 9)}
		same(t, "Credited", all(x, got, e), all(x, want, api.OK))
	}
}

func TestCreditedNumbers(t *testing.T) {
	for _, x := range []struct {
		used   []int
		number int
		want   []int
	}{{nil, 1, ints(1)}, {nil, 999999999, ints(999999999)}, {ints(3, 9), 1, ints(1, 3, 9)}, {ints(3, 9), 5, ints(3, 5, 9)}, {ints(3, 9), 10, ints(3, 9, 10)}, {upTo(255), 256, upTo(256)}, {upTo(256)[1:], 1, upTo(256)}} {
		a, e := credit.Credited(account(x.used...), made(x.number, 10))
		same(t, "Credited", all(a, e), all(with(account(x.want...), func(a *credit.Account) { a.Balance, a.Debt = 1006, 496 }), api.OK))
	}
}

func TestCreditedOfWrongTokens(t *testing.T) {
	good := made(7, 1000)
	rich := with(account(7), func(a *credit.Account) { a.Balance = 1000000000000 })
	crowd := with(account(upTo(256)...), func(a *credit.Account) { a.Balance = 1000000000000 })
	forged := func(number, amount int) credit.Token {
		return credit.Token{Number: number, Amount: amount, Seal: good.Seal}
	}
	for _, x := range []struct {
		a credit.Account
		t credit.Token
		e api.Errno
	}{
		{account(), forged(0, 1000), api.ErrRange}, {account(), forged(-1, 1000), api.ErrRange}, {account(), forged(1000000000, 1000), api.ErrRange}, {account(), forged(7, 0), api.ErrRange}, {account(), forged(7, -1), api.ErrRange}, {account(), forged(7, 100000001), api.ErrRange}, {account(), credit.Token{}, api.ErrRange}, {crowd, forged(math.MinInt, math.MaxInt), api.ErrRange}, {crowd, forged(7, math.MinInt), api.ErrRange},
		{account(), forged(7+1<<32, 1000), api.ErrRange}, {account(), forged(7, 1000+1<<32), api.ErrRange}, // with the same bytes
		{account(), forged(7, 1001), api.ErrCheck}, {account(), forged(8, 1000), api.ErrCheck}, {account(7), forged(7, 1001), api.ErrCheck}, {crowd, forged(300, 1), api.ErrCheck}, {rich, forged(300, 1), api.ErrCheck}, {account(), credit.Token{Number: 7, Amount: 1000}, api.ErrCheck}, {account(), value(credit.Made(other(), 7, 1000)), api.ErrCheck}, {account(), value(credit.Made(api.Key{}, 7, 1000)), api.ErrCheck}, // the key of zeros is no new key
		{account(7), good, api.ErrTwice}, {account(3, 7, 9), good, api.ErrTwice}, {account(7), made(7, 1), api.ErrTwice}, {crowd, made(1, 1), api.ErrTwice}, {crowd, made(256, 1), api.ErrTwice}, {rich, good, api.ErrTwice},
		{crowd, made(257, 1), api.ErrMany}, {account(upTo(256)...), made(300, 1), api.ErrMany}, {account(upTo(255)...), made(300, 1), api.OK},
		{rich, made(8, 1), api.ErrLarge}, {rich, made(8, 100000000), api.ErrLarge},
		{with(rich, func(a *credit.Account) { a.Debt, a.Share = 7, 100 }), made(8, 8), api.ErrLarge}, {with(rich, func(a *credit.Account) { a.Debt, a.Share = 8, 100 }), made(8, 8), api.OK}, {with(rich, func(a *credit.Account) { a.Debt, a.Share = 800, 99 }), made(8, 8), api.ErrLarge},
		{with(rich, func(a *credit.Account) { a.Balance = 999999999999 }), made(8, 1), api.OK}, {with(rich, func(a *credit.Account) { a.Balance = 999999999999 }), made(8, 2), api.ErrLarge},
	} {
		a, e := credit.Credited(x.a, x.t)
		same(t, "Credited", all(x.t, e), all(x.t, x.e))
		if x.e != api.OK {
			same(t, "Credited: account", a, credit.Account{})
		}
	}
}

func TestAll(t *testing.T) {
	stranger := value(credit.Made(other(), 8, 1))
	for _, x := range []struct {
		l       []credit.Token
		a       credit.Account
		indices []int
	}{
		{nil, account(), nil}, {[]credit.Token{stranger}, account(), nil},
		{[]credit.Token{made(7, 1000), made(7, 1000), stranger, made(9, 1000)}, with(account(7, 9), func(a *credit.Account) { a.Balance, a.Debt = 2500, 0 }), ints(0, 3)},
		{[]credit.Token{stranger, made(9, 1000), made(7, 10), made(9, 5)}, with(account(7, 9), func(a *credit.Account) { a.Balance, a.Debt = 1606, 96 }), ints(1, 2)},
	} {
		a, l, e := credit.All(account(), x.l)
		same(t, "All", all(a, l, e), all(x.a, x.indices, api.OK))
	}
	a, l, e := credit.All(changing(), []credit.Token{made(7, 1), value(credit.Made(other(), 7, 1)), value(credit.Made(other(), 8, 1))})
	same(t, "All while the key is being changed", all(a.Used, l, e), all(ints(7, 8), ints(0, 2), api.OK))
}

// TestAllToTheLimits has tokens that do not fit any more, and later ones that do.
func TestAllToTheLimits(t *testing.T) {
	var tokens []credit.Token
	for number := range 256 {
		tokens = append(tokens, made(256-number, 1))
	}
	a, l, e := credit.All(account(), tokens)
	same(t, "All of 256 tokens", all(a.Used, len(l), l[255], a.Balance, a.Debt, e), all(upTo(256), 256, 255, 1256, 500, api.OK))
	a, l, e = credit.All(account(500), tokens)
	same(t, "All of one too many", all(a.Used, len(l), l[254], e), all(append(upTo(256)[1:], 500), 255, 254, api.OK))
	rich := with(account(), func(a *credit.Account) { a.Balance = 999999999990 })
	rich.Debt = 0
	a, l, e = credit.All(rich, []credit.Token{made(1, 11), made(2, 9), made(3, 2), made(4, 1), made(5, 1)})
	same(t, "All of too much", all(a.Balance, a.Used, l, e), all(1000000000000, ints(2, 4), ints(1, 3), api.OK))
}

func TestAllOfWrongTokens(t *testing.T) {
	for _, x := range []struct {
		l []credit.Token
		e api.Errno
	}{
		{make([]credit.Token, 257), api.ErrMany}, {repeated(made(7, 1), 257), api.ErrMany}, {repeated(made(7, 1), 256), api.OK},
		{[]credit.Token{{}}, api.ErrRange}, {[]credit.Token{made(7, 1), made(8, 1), {Number: 9}}, api.ErrRange}, {[]credit.Token{{Amount: 9}, made(8, 1)}, api.ErrRange}, {[]credit.Token{made(7, 1), {Number: 1000000000, Amount: 1}}, api.ErrRange}, {[]credit.Token{{Number: 7, Amount: 100000001}}, api.ErrRange}, {[]credit.Token{{Number: 7, Amount: 100000000}}, api.OK},
	} {
		a, l, e := credit.All(account(), x.l)
		same(t, "All", e, x.e)
		if x.e != api.OK {
			same(t, "All: results", all(a, l), all(credit.Account{}, ints()))
		}
	}
}

// TestAllByCredited credits one token after the other.
func TestAllByCredited(t *testing.T) {
	r := rand.New(rand.NewSource(1))
	for range 500 {
		a := randomAccount(r, 20)
		tokens := randomTokens(r, a, r.Intn(30))
		want := a
		var indices []int
		for i, x := range tokens {
			if next, e := credit.Credited(want, x); e == api.OK {
				want = next
				indices = append(indices, i)
			}
		}
		got, l, e := credit.All(a, tokens)
		same(t, "All", all(got, l, e), all(want, indices, api.OK))
	}
}

// TestCreditedByDefinition follows the words of the chapter.
func TestCreditedByDefinition(t *testing.T) {
	r := rand.New(rand.NewSource(2))
	for range 3000 {
		a := randomAccount(r, 20)
		x := randomTokens(r, a, 1)[0]
		got, e := credit.Credited(a, x)
		paid := int(math.Min(float64(a.Debt), math.Floor(float64(x.Amount*a.Share)/100)))
		byKey := value(credit.Made(a.Key, x.Number, x.Amount)).Seal == x.Seal
		byNew := value(credit.Made(a.New, x.Number, x.Amount)).Seal == x.Seal
		switch {
		case !byKey && !(a.Changing && byNew):
			same(t, "Credited", all(got, e), all(credit.Account{}, api.ErrCheck))
		case slices.Contains(a.Used, x.Number):
			same(t, "Credited", all(got, e), all(credit.Account{}, api.ErrTwice))
		case a.Balance+x.Amount-paid > 1000000000000:
			same(t, "Credited", all(got, e), all(credit.Account{}, api.ErrLarge))
		default:
			want := a
			want.Balance, want.Debt = a.Balance+x.Amount-paid, a.Debt-paid
			want.Used = append(slices.Clone(a.Used), x.Number)
			slices.Sort(want.Used)
			same(t, "Credited", all(got, e), all(want, api.OK))
		}
	}
}

func TestSpent(t *testing.T) {
	for _, x := range []struct {
		amount, left int
		exhausted    bool
	}{{0, 3000, false}, {1, 2999, false}, {2900, 100, false}, {3000, 0, false}, {3001, -1, true}, {100000000, -99997000, true}} {
		a, e := credit.Spent(account(3, 9), x.amount)
		same(t, "Spent", all(a, e), all(with(account(3, 9), func(a *credit.Account) { a.Balance = 1000 - x.amount }), api.OK))
		left, e := credit.Left(a)
		same(t, "Left", all(left, e), all(x.left, api.OK))
		is, e := credit.Exhausted(a)
		same(t, "Exhausted", all(is, e), all(x.exhausted, api.OK))
	}
	same(t, "Left of the most", value(credit.Left(credit.Account{Balance: 1000000000000, Emergency: 100000000})), 1000100000000)
	same(t, "Left of the least", value(credit.Left(credit.Account{Balance: -1000000000000, Debt: 5})), -1000000000000)
}

func TestSpentOfWrongAmounts(t *testing.T) {
	poor := func(balance int) credit.Account {
		return with(account(), func(a *credit.Account) { a.Balance = balance })
	}
	for _, x := range []struct {
		a      credit.Account
		amount int
		e      api.Errno
	}{
		{account(), -1, api.ErrRange}, {account(), 100000001, api.ErrRange}, {account(), math.MinInt, api.ErrRange}, {account(), math.MaxInt, api.ErrRange}, {poor(-1000000000000), 100000001, api.ErrRange},
		{poor(-1000000000000), 0, api.OK}, {poor(-1000000000000), 1, api.ErrLarge}, {poor(-999999999999), 1, api.OK}, {poor(-999999999999), 2, api.ErrLarge}, {poor(-999900000000), 100000000, api.OK}, {poor(-999900000001), 100000000, api.ErrLarge},
	} {
		a, e := credit.Spent(x.a, x.amount)
		same(t, "Spent", all(x.amount, e), all(x.amount, x.e))
		if x.e != api.OK {
			same(t, "Spent: account", a, credit.Account{})
		}
	}
}

func TestBegunAndFinished(t *testing.T) {
	begun, e := credit.Begun(account(3), other())
	want := account(3)
	want.New, want.Changing = other(), true
	same(t, "Begun", all(begun, e), all(want, api.OK))
	finished, e := credit.Finished(begun)
	want.Key, want.New, want.Changing = other(), api.Key{}, false
	same(t, "Finished", all(finished, e), all(want, api.OK))
	zero, e := credit.Begun(account(), api.Key{}) // zeros are a key, too
	same(t, "Begun with zeros", all(zero, e), all(with(account(), func(a *credit.Account) { a.Changing = true }), api.OK))
	same(t, "Credited by the key of zeros", value(credit.Credited(zero, value(credit.Made(api.Key{}, 7, 10)))).Used, ints(7))
	zero, e = credit.Finished(zero)
	same(t, "Finished with zeros", all(zero, e), all(with(account(), func(a *credit.Account) { a.Key = api.Key{} }), api.OK))
	for _, x := range []struct {
		a   credit.Account
		key api.Key
		e   api.Errno
	}{{changing(), api.Key{8}, api.ErrState}, {changing(), k(), api.ErrState}, {changing(), other(), api.ErrState}, {account(), k(), api.ErrTwice}, {account(), api.Key{1, 2, 3, 4, 5, 6, 7, 9}, api.OK}} {
		a, e := credit.Begun(x.a, x.key)
		same(t, "Begun", all(a.Changing, e), all(x.e == api.OK, x.e))
	}
	a, e := credit.Finished(account())
	same(t, "Finished of one that is not changing", all(a, e), all(credit.Account{}, api.ErrState))
	a, e = credit.Begun(account(), k())
	same(t, "Begun with the same key", all(a, e), all(credit.Account{}, api.ErrTwice))
}
