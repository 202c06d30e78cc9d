package credit_test

import (
	"fmt"
	"math"
	"math/rand"
	"reflect"
	"testing"

	"kilovar/api"
	"kilovar/credit"
)

// P1: every function terminates and never panics, for all arguments; they are not modified, and results share no memory with them.

// arguments has one of each kind that functions take.
type arguments struct {
	a              credit.Account
	key            api.Key
	number, amount int
	token          credit.Token
	tokens         []credit.Token
	block          api.Block
	l              []credit.Hours
	s              credit.Switch
	office         string
	tick, use      int
	fresh          int
	text           string
}

// calls calls all functions, and returns their results.
func calls(x arguments) []any {
	out := all(credit.CheckAccount(x.a), credit.CheckHours(x.l), credit.CheckSwitch(x.s))
	add := func(results ...any) { out = append(out, results...) }
	token, e := credit.Made(x.key, x.number, x.amount)
	add(token, e)
	b, e := credit.Packed(x.token)
	add(b, e)
	token, e = credit.Unpacked(x.block)
	add(token, e)
	a, e := credit.Credited(x.a, x.token)
	add(a, e)
	a, indices, e := credit.All(x.a, x.tokens)
	add(a, indices, e)
	a, e = credit.Spent(x.a, x.amount)
	add(a, e)
	left, e := credit.Left(x.a)
	add(left, e)
	is, e := credit.Exhausted(x.a)
	add(is, e)
	a, e = credit.Begun(x.a, x.key)
	add(a, e)
	a, e = credit.Finished(x.a)
	add(a, e)
	return append(out, moreCalls(x)...)
}

func moreCalls(x arguments) []any {
	var out []any
	add := func(results ...any) { out = append(out, results...) }
	is, e := credit.Protected(x.l, x.tick)
	add(is, e)
	tick, e := credit.Free(x.l, x.tick)
	add(tick, e)
	tick, e = credit.Cut(x.a, x.l, x.tick, x.use)
	add(tick, e)
	s, e := credit.Ordered(x.s, x.office, x.tick)
	add(s, e)
	s, e = credit.Withdrawn(x.s, x.office)
	add(s, e)
	words, e := credit.Barriers(x.s, x.l, x.tick, x.fresh)
	add(words, e)
	s, e = credit.Opened(x.s, x.l, x.tick, x.fresh)
	add(s, e)
	s, e = credit.Released(x.s)
	add(s, e)
	s, e = credit.Confirmed(x.s)
	add(s, e)
	text, e := credit.Print(x.a)
	add(text, e)
	a, i, e := credit.Parse(x.text)
	add(a, i, e)
	return out
}

// visitLists visits all lists in a value that are not empty, those in lists and structures, too.
func visitLists(v reflect.Value, visit func(v reflect.Value)) {
	switch {
	case v.Kind() == reflect.Struct:
		for i := range v.NumField() {
			visitLists(v.Field(i), visit)
		}
	case v.Kind() == reflect.Slice && v.Len() > 0:
		for i := range v.Len() {
			visitLists(v.Index(i), visit)
		}
		visit(v)
	}
}

// spoil changes all elements of all lists among values.
func spoil(values ...any) {
	for _, x := range values {
		visitLists(reflect.ValueOf(x), func(v reflect.Value) {
			for i := range v.Len() {
				v.Index(i).SetZero()
			}
		})
	}
}

// anyInt returns any number, which may be far beyond all limits.
func anyInt(r *rand.Rand) int {
	return pick(r, r.Intn(3), r.Intn(20)-1, r.Intn(5000)-10, math.MinInt, math.MaxInt, int(r.Uint64()))
}

// spoiltBy returns a number, or now and then any one.
func spoiltBy(r *rand.Rand, x, often int) int {
	if r.Intn(often) > 0 {
		return x
	}
	return anyInt(r)
}

// anyAccount returns an account of which now and then a number is any one.
func anyAccount(r *rand.Rand) credit.Account {
	a := randomAccount(r, 10)
	a.Balance, a.Debt, a.Share, a.Emergency = spoiltBy(r, a.Balance, 30), spoiltBy(r, a.Debt, 30), spoiltBy(r, a.Share, 30), spoiltBy(r, a.Emergency, 30)
	for i := range a.Used {
		a.Used[i] = spoiltBy(r, a.Used[i], 100)
	}
	a.Changing = a.Changing != (r.Intn(20) == 0)
	return a
}

func anyTokens(r *rand.Rand, a credit.Account) []credit.Token {
	out := randomTokens(r, a, 1+r.Intn(8))
	for i := range out {
		out[i].Number, out[i].Amount = spoiltBy(r, out[i].Number, 50), spoiltBy(r, out[i].Amount, 50)
	}
	return out
}

func anyHours(r *rand.Rand) []credit.Hours {
	out := randomHours(r)
	for i := range out {
		h := &out[i].Span
		h.From, h.To = spoiltBy(r, h.From, 30), spoiltBy(r, h.To, 30)
	}
	return out
}

func anySwitch(r *rand.Rand) credit.Switch {
	s := randomSwitch(r, 5000)
	for i := range s.Orders {
		o := &s.Orders[i]
		o.Tick = spoiltBy(r, o.Tick, 30)
		if r.Intn(30) == 0 {
			o.Office = anyOffice(r)
		}
	}
	s.On, s.Ready = s.On != (r.Intn(20) == 0), s.Ready != (r.Intn(20) == 0)
	return s
}

func anyOffice(r *rand.Rand) string {
	return append(offices[:], "", "new", "1", "\xff", "a b")[r.Intn(10)]
}

func anyText(r *rand.Rand) string {
	text := value(credit.Print(randomAccount(r, 10)))
	if r.Intn(2) > 0 {
		at := r.Intn(len(text))
		text = text[:at] + []string{"", " ", "\n", "-", "0", "\xff"}[r.Intn(6)] + text[at+r.Intn(2):]
	}
	for range r.Intn(3) * r.Intn(2) {
		text += []string{"used", " ", "\n", "1", "0", " 2", "\xff", "used 100\n", newLine}[r.Intn(9)]
	}
	return text
}

func anyArguments(seed int64) arguments {
	r := rand.New(rand.NewSource(seed))
	x := arguments{a: anyAccount(r), key: randomKey(r), number: spoiltBy(r, 1+r.Intn(100), 5), amount: spoiltBy(r, 1+r.Intn(100), 5), l: anyHours(r), s: anySwitch(r), office: anyOffice(r), text: anyText(r)}
	x.tokens = anyTokens(r, x.a)
	x.token = anyTokens(r, x.a)[0]
	for i := range x.block {
		x.block[i] = byte(pick(r, 0, 0, 1, r.Intn(256)))
	}
	x.tick, x.use, x.fresh = spoiltBy(r, 5000+r.Intn(100000), 10), spoiltBy(r, 1+r.Intn(100), 10), spoiltBy(r, r.Intn(200000), 10)
	return x
}

// TestAllArguments calls all functions with equal arguments, spoils results, then arguments, and compares what is left.
func TestAllArguments(t *testing.T) {
	for seed := range int64(4000) {
		x := anyArguments(seed)
		first := calls(x)
		printed := fmt.Sprint(first)
		spoil(first...)
		if fmt.Sprint(x) != fmt.Sprint(anyArguments(seed)) {
			t.Fatalf("the arguments of the seed %d are modified", seed)
		}
		second := calls(x)
		spoil(x.a, x.tokens, x.l, x.s)
		if fmt.Sprint(second) != printed {
			t.Fatalf("the results of the seed %d share memory with arguments, or depend on more than them", seed)
		}
	}
}

func TestResultsShareNoMemory(t *testing.T) {
	for seed := range int64(1000) {
		seen := map[uintptr]bool{}
		for _, x := range calls(anyArguments(seed)) {
			visitLists(reflect.ValueOf(x), func(v reflect.Value) {
				if seen[v.Pointer()] {
					t.Fatal("two lists of results share memory")
				}
				seen[v.Pointer()] = true
			})
		}
	}
}

// TestRoomBehindLists changes accounts and switches whose memory has room: no result changes another one.
func TestRoomBehindLists(t *testing.T) {
	a := account(append(make([]int, 0, 8), 3)...)
	one, two := value(credit.Credited(a, made(5, 1))), value(credit.Credited(a, made(7, 1)))
	same(t, "two accounts", all(one.Used, two.Used, a.Used[:2]), all(ints(3, 5), ints(3, 7), ints(3, 0)))
	s := on(append(make([]credit.Order, 0, 8), order("a", 5))...)
	first, second := value(credit.Ordered(s, "b", 5)), value(credit.Ordered(s, "c", 5))
	same(t, "two switches", all(first, second), all(on(order("a", 5), order("b", 5)), on(order("a", 5), order("c", 5))))
	same(t, "what is behind the orders", s.Orders[:2][1], credit.Order{})
	without := value(credit.Withdrawn(first, "a"))
	same(t, "a switch without an order", all(without, first), all(on(order("b", 5)), on(order("a", 5), order("b", 5))))
}

// TestNothing has no arguments that are valid but for an account, hours and a switch of zeros.
func TestNothing(t *testing.T) {
	for _, x := range calls(arguments{}) {
		if e, ok := x.(api.Errno); ok && (e < api.OK || e > api.ErrOld) {
			t.Errorf("error %d", e)
		}
	}
	same(t, "checks of zeros", calls(arguments{})[:3], all(api.OK, api.OK, api.OK))
}

// TestManyAndFar calls functions with lists far above their limits, and with numbers beyond all of them.
func TestManyAndFar(t *testing.T) {
	for _, n := range far() {
		many := arguments{
			a: credit.Account{Balance: n, Debt: n, Share: n, Emergency: n, New: other(), Used: repeated(n, 100000)}, number: n, amount: n,
			token: credit.Token{Number: n, Amount: n}, tokens: repeated(credit.Token{Number: n, Amount: n}, 100000),
			l: repeated(span(n, n), 100000), s: on(repeated(order("a", n), 100000)...), tick: n, use: n, fresh: n, text: string(make([]byte, 1000000)),
		}
		few := many
		few.a.Used, few.tokens, few.l, few.s = ints(n), many.tokens[:1], many.l[:1], on(order("a", n))
		for _, x := range []arguments{many, few} {
			for _, result := range calls(x) {
				if e, ok := result.(api.Errno); ok && e == api.OK {
					t.Errorf("no error of the number %d", n)
				}
			}
		}
	}
}

// TestLimits compares the limits with the chapter's.
func TestLimits(t *testing.T) {
	same(t, "the limits", ints(credit.MaxAmount, credit.MaxUsed, credit.MaxTokens, credit.Day, credit.MaxHours, credit.MaxUse, credit.MaxOrders, credit.MaxFresh),
		ints(100000000, 256, 256, 86400, 16, 100000, 8, 1000000))
}
