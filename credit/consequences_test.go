package credit_test

import (
	"math/rand"
	"slices"
	"testing"

	"kilovar/api"
	"kilovar/credit"
)

// P8.6

// randomAmounts returns n different numbers of tokens, not used by an account, with amounts.
func randomAmounts(r *rand.Rand, a credit.Account, n int) map[int]int {
	out := map[int]int{}
	for len(out) < n {
		number := 1 + r.Intn(60)
		if !slices.Contains(a.Used, number) {
			out[number] = 1 + r.Intn(2000)
		}
	}
	return out
}

// shuffled returns tokens for numbers and amounts, each of them some times, in any order.
func shuffled(r *rand.Rand, key api.Key, amounts map[int]int) []credit.Token {
	var out []credit.Token
	for number := range 61 {
		if amount, ok := amounts[number]; ok {
			out = append(out, repeated(value(credit.Made(key, number, amount)), 1+r.Intn(3))...)
		}
	}
	r.Shuffle(len(out), func(i, j int) { out[i], out[j] = out[j], out[i] })
	return out
}

// middling returns an account that is far from all limits.
func middling(r *rand.Rand) credit.Account {
	a := randomAccount(r, 20)
	a.Balance, a.Debt = r.Intn(2000)-1000, pick(r, 0, r.Intn(3000))
	return a
}

func TestTokensCreditOnce(t *testing.T) {
	r := rand.New(rand.NewSource(8))
	for range 500 {
		a := middling(r)
		amounts := randomAmounts(r, a, r.Intn(15))
		tokens := shuffled(r, a.Key, amounts)
		b, l, e := credit.All(a, tokens)
		same(t, "All", all(len(l), len(b.Used), e), all(len(amounts), len(a.Used)+len(amounts), api.OK))
		worth := 0
		for number, amount := range amounts {
			same(t, "a number is used", slices.Contains(b.Used, number), true)
			worth += amount
		}
		same(t, "what balance and debt gain together", b.Balance-a.Balance+a.Debt-b.Debt, worth)
		for i, x := range tokens {
			same(t, "the first one of a token is credited", slices.Contains(l, i), slices.Index(tokens, x) == i)
		}
		again, l, e := credit.All(b, tokens)
		same(t, "All once more", all(again, l, e), all(b, ints(), api.OK))
	}
}

func TestTheOrderOfTokensDoesNotMatter(t *testing.T) {
	r := rand.New(rand.NewSource(9))
	for range 500 {
		a := middling(r)
		a.Debt = 0
		amounts := randomAmounts(r, a, r.Intn(15))
		one, _, e := credit.All(a, shuffled(r, a.Key, amounts))
		two, _, f := credit.All(a, shuffled(r, a.Key, amounts))
		same(t, "tokens in another order", all(one, e), all(two, f))
	}
}

func TestWhatATokenIsWorth(t *testing.T) {
	r := rand.New(rand.NewSource(10))
	for range 1000 {
		a := middling(r)
		for number, amount := range randomAmounts(r, a, 1) {
			b, e := credit.Credited(a, value(credit.Made(a.Key, number, amount)))
			same(t, "Credited", all(b.Balance-a.Balance+a.Debt-b.Debt, b.Balance >= a.Balance, b.Debt <= a.Debt, e), all(amount, true, true, api.OK))
		}
	}
}

func TestChangedTokensAreNotCredited(t *testing.T) {
	r := rand.New(rand.NewSource(11))
	for range 300 {
		a := middling(r)
		for number, amount := range randomAmounts(r, a, 1) {
			b := value(credit.Packed(value(credit.Made(a.Key, number, amount))))
			at := r.Intn(len(b))
			b[at] += byte(1 + r.Intn(255))
			x, e := credit.Unpacked(b)
			if e != api.OK {
				same(t, "Unpacked of a changed byte", all(x, e), all(credit.Token{}, api.ErrRange))
				continue
			}
			a.New, a.Changing = api.Key{}, false // by chance, another key may be that of the changed token
			got, e := credit.Credited(a, x)
			same(t, "Credited with a changed byte", all(got, e), all(credit.Account{}, api.ErrCheck))
		}
	}
}

func TestKeysInTwoPhases(t *testing.T) {
	r := rand.New(rand.NewSource(12))
	for range 300 {
		a := middling(r)
		a.New, a.Changing = api.Key{}, false
		key := randomKey(r)
		if key == a.Key {
			continue
		}
		during, e := credit.Begun(a, key)
		same(t, "Begun: error", e, api.OK)
		after, e := credit.Finished(during)
		same(t, "Finished: error", e, api.OK)
		for number, amount := range randomAmounts(r, a, 1) {
			for i, x := range []struct {
				a        credit.Account
				old, new api.Errno
			}{{a, api.OK, api.ErrCheck}, {during, api.OK, api.OK}, {after, api.ErrCheck, api.OK}} {
				_, e := credit.Credited(x.a, value(credit.Made(a.Key, number, amount)))
				_, f := credit.Credited(x.a, value(credit.Made(key, number, amount)))
				same(t, "tokens of both keys", all(i, e, f), all(i, x.old, x.new))
			}
		}
	}
}

func TestNobodyIsCutInProtectedHours(t *testing.T) {
	r := rand.New(rand.NewSource(13))
	for range 500 {
		a, l := middling(r), randomHours(r)
		a.Balance, a.Emergency = r.Intn(1000000)-1000, r.Intn(2000)
		start, use := r.Intn(1000000), pick(r, 1, 2, 1+r.Intn(100))
		cut, e := credit.Cut(a, l, start, use)
		if e == api.ErrNone { // nobody is cut by hours that never end
			tick, f := credit.Free(l, 50000000)
			same(t, "no tick is free", all(tick, f), all(0, api.ErrNone))
			continue
		}
		is, f := credit.Protected(l, cut)
		same(t, "Cut in protected hours", all(is, e, f), all(false, api.OK, api.OK))
		left := value(credit.Left(a))
		if left >= 0 && left-(cut-start)*use >= 0 {
			t.Errorf("cut at %d before the credit %d is spent", cut, left)
		}
		if spent := (cut - start) * use; spent <= 100000000 {
			b, e := credit.Spent(a, spent)
			is, f := credit.Exhausted(b)
			same(t, "Exhausted at the tick of Cut", all(is, e, f), all(true, api.OK, api.OK))
		}
	}
}

func TestOneOfficeOpensNothing(t *testing.T) {
	r := rand.New(rand.NewSource(14))
	for range 300 {
		s, tick := on(), 0
		for range 1 + r.Intn(12) {
			tick += r.Intn(1000)
			s = value(credit.Ordered(s, "grid", tick))
			same(t, "orders of one office", s, on(order("grid", tick)))
			opened, e := credit.Opened(s, nil, tick+r.Intn(5), 1000000)
			same(t, "Opened by one office", all(opened, e), all(off(), api.ErrRight))
		}
	}
}

func TestOldOrdersOpenNothing(t *testing.T) {
	r := rand.New(rand.NewSource(15))
	for range 500 {
		tick := 1000 + r.Intn(700000)
		s, fresh := randomSwitch(r, tick), r.Intn(1000)
		if !s.On {
			continue
		}
		kept := s
		for _, o := range s.Orders {
			if tick-o.Tick > fresh {
				kept = value(credit.Withdrawn(kept, o.Office))
			}
		}
		opened, e := credit.Opened(s, nil, tick, fresh)
		without, f := credit.Opened(kept, nil, tick, fresh)
		same(t, "Opened without old orders", all(opened, e), all(without, f))
		same(t, "Opened by two offices", e == api.OK, len(kept.Orders) >= 2)
		if len(s.Orders) > 0 { // much later, all orders are old
			later, e := credit.Opened(s, nil, tick+fresh+1, fresh)
			same(t, "Opened later", all(later, e), all(off(), api.ErrRight))
		}
	}
}

// TestClosedAtTheMeterAlone calls all functions that return switches: only Confirmed returns one that is on from one that is off, and only of one that was released.
func TestClosedAtTheMeterAlone(t *testing.T) {
	r := rand.New(rand.NewSource(16))
	s, tick, released, opened := on(), 0, false, 0
	for range 20000 {
		tick = min(tick+r.Intn(100), 100000000)
		office := offices[r.Intn(5)]
		before := s
		step := r.Intn(7)
		next, e := s, api.OK
		switch step {
		case 0, 1, 2:
			next, e = credit.Ordered(s, office, tick)
		case 3:
			next, e = credit.Withdrawn(s, office)
		case 4:
			next, e = credit.Opened(s, hours(), tick, 200)
		case 5:
			next, e = credit.Released(s)
		case 6:
			next, e = credit.Confirmed(s)
		}
		if e != api.OK {
			continue
		}
		s = next
		same(t, "CheckSwitch", credit.CheckSwitch(s), api.OK)
		if before.On && !s.On {
			opened++
			released = false
			same(t, "opened by Opened", all(step, s.Ready, value(credit.Protected(hours(), tick)), len(before.Orders) >= 2), all(4, false, false, true))
		}
		if !before.On && s.On {
			same(t, "closed by Confirmed, after Released", all(step, released), all(6, true))
		}
		released = released || step == 5
	}
	if opened < 100 {
		t.Errorf("the switch was opened %d times", opened)
	}
}

func TestAccountsComeBack(t *testing.T) {
	r := rand.New(rand.NewSource(17))
	for range 1000 {
		a := randomAccount(r, pick(r, 0, 20, 256))
		s, e := credit.Print(a)
		same(t, "Print: error", e, api.OK)
		back, i, e := credit.Parse(s)
		same(t, "Parse", all(back, i, e), all(a, 0, api.OK))
	}
}
