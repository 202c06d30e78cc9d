package credit_test

import (
	"fmt"
	"math"
	"math/rand"
	"reflect"
	"slices"
	"testing"

	"kilovar/api"
	"kilovar/credit"
)

// same compares results with the expected ones; nil and empty lists are equal.
func same(t *testing.T, what string, got, want any) {
	t.Helper()
	if g, w := fmt.Sprintf("%+v", got), fmt.Sprintf("%+v", want); g != w {
		t.Errorf("%s: got %s, want %s", what, g, w)
	}
}

// all returns all results of a call in one.
func all(results ...any) []any { return results }

// value returns a result whose error another test examines.
func value[T any](x T, _ api.Errno) T { return x }

// zeros returns the zero value of each result.
func zeros(results ...any) []any {
	var out []any
	for _, x := range results {
		out = append(out, reflect.Zero(reflect.TypeOf(x)).Interface())
	}
	return out
}

func ints(l ...int) []int { return l }

func repeated[T any](x T, n int) []T {
	return slices.Repeat([]T{x}, n)
}

// upTo returns the numbers from 1 to n.
func upTo(n int) []int {
	var out []int
	for i := range n {
		out = append(out, i+1)
	}
	return out
}

// far are numbers beyond all limits.
func far() []int {
	return ints(math.MinInt, math.MinInt+1, -1<<40, 1<<40, math.MaxInt-1, math.MaxInt)
}

// k returns the key K of the examples, other a further one.
func k() api.Key     { return api.Key{1, 2, 3, 4, 5, 6, 7, 8} }
func other() api.Key { return api.Key{9} }

// account returns the account A of the examples with used numbers.
func account(used ...int) credit.Account {
	return credit.Account{Balance: 1000, Debt: 500, Share: 40, Emergency: 2000, Key: k(), Used: used}
}

// with returns an account after a change.
func with(a credit.Account, change func(a *credit.Account)) credit.Account {
	change(&a)
	return a
}

// changing returns the account A while its key is being changed.
func changing() credit.Account {
	return with(account(), func(a *credit.Account) { a.New, a.Changing = other(), true })
}

// made returns a token that is sealed by the key K.
func made(number, amount int) credit.Token {
	return value(credit.Made(k(), number, amount))
}

// wrongAccounts returns accounts with their errors; those with several have the first one.
func wrongAccounts() map[api.Errno][]credit.Account {
	out := map[api.Errno][]credit.Account{}
	for e, changes := range map[api.Errno][]func(a *credit.Account){
		api.ErrRange: {
			func(a *credit.Account) { a.Balance = -1000000000001 }, func(a *credit.Account) { a.Balance = 1000000000001 },
			func(a *credit.Account) { a.Debt = -1 }, func(a *credit.Account) { a.Debt = 1000000000001 },
			func(a *credit.Account) { a.Share = -1 }, func(a *credit.Account) { a.Share = 101 },
			func(a *credit.Account) { a.Emergency = -1 }, func(a *credit.Account) { a.Emergency = 100000001 },
			func(a *credit.Account) { a.Emergency, a.New, a.Used = -1, other(), repeated(0, 300) },
			func(a *credit.Account) { a.Used = ints(0) }, func(a *credit.Account) { a.Used = ints(-1) }, func(a *credit.Account) { a.Used = ints(1000000000) }, func(a *credit.Account) { a.Used = ints(5, 0) }, func(a *credit.Account) { a.Used = ints(5, 1000000000, 6) }, func(a *credit.Account) { a.Used = ints(5, math.MinInt) },
		},
		api.ErrForm: {
			func(a *credit.Account) { a.New[7] = 1 }, func(a *credit.Account) { a.New = a.Key }, func(a *credit.Account) { a.New, a.Used = other(), repeated(0, 257) },
		},
		api.ErrMany: {
			func(a *credit.Account) { a.Used = upTo(257) }, func(a *credit.Account) { a.Used = repeated(0, 257) },
		},
		api.ErrOrder: {
			func(a *credit.Account) { a.Used = ints(5, 5) }, func(a *credit.Account) { a.Used = ints(5, 4) }, func(a *credit.Account) { a.Used = ints(1, 3, 2, 0) }, func(a *credit.Account) { a.Used = ints(999999999, 1) },
		},
	} {
		for _, change := range changes {
			out[e] = append(out[e], with(account(), change))
		}
	}
	return out
}

func week() [7]bool { return [7]bool{true, true, true, true, true, true, true} }

// span returns hours of days.
func span(from, to int, days ...int) credit.Hours {
	h := credit.Hours{Span: api.Span{From: from, To: to}}
	for _, day := range days {
		h.Days[day] = true
	}
	return h
}

// daily returns hours of all days.
func daily(from, to int) credit.Hours { return span(from, to, 0, 1, 2, 3, 4, 5, 6) }

// hours returns the hours H of the examples.
func hours() []credit.Hours {
	return []credit.Hours{span(0, 86400, 5, 6), daily(0, 21600), daily(64800, 86400)}
}

// wrongHours returns hours with their errors.
func wrongHours() map[api.Errno][][]credit.Hours {
	return map[api.Errno][][]credit.Hours{
		api.ErrMany: {repeated(daily(0, 1), 17), make([]credit.Hours, 17)},
		api.ErrSpan: {{{}}, {daily(5, 5)}, {daily(6, 5)}, {daily(-1, 5)}, {daily(0, 86401)}, {daily(86400, 86400)}, {daily(86400, 86401)}, {daily(-5, -1)}, {span(5, 5)}, {daily(0, 5), daily(7, 7)}, {daily(math.MinInt, math.MaxInt)}, {daily(math.MaxInt, math.MinInt)}},
	}
}

func order(office string, tick int) credit.Order {
	return credit.Order{Office: office, Tick: tick}
}

// on returns a switch that is on, with orders.
func on(l ...credit.Order) credit.Switch { return credit.Switch{On: true, Orders: l} }

// off and ready return switches that are off.
func off() credit.Switch   { return credit.Switch{} }
func ready() credit.Switch { return credit.Switch{Ready: true} }

// ordered returns the switch S of the examples.
func ordered() credit.Switch { return on(order("grid", 30000), order("sales", 31000)) }

// full returns a switch with as many orders as there may be, all at a tick.
func full(tick int) credit.Switch {
	s := on()
	for _, office := range []string{"a", "b", "c", "d", "e", "f", "g", "h"} {
		s.Orders = append(s.Orders, order(office, tick))
	}
	return s
}

// wrongSwitches returns switches with their errors; those with several have the first one.
func wrongSwitches() map[api.Errno][]credit.Switch {
	return map[api.Errno][]credit.Switch{
		api.ErrState: {{On: true, Ready: true}, {Orders: ordered().Orders}, {Orders: ordered().Orders[:1]}, {Orders: make([]credit.Order, 1)}, {Ready: true, Orders: ordered().Orders}, {On: true, Ready: true, Orders: make([]credit.Order, 9)}, {Orders: make([]credit.Order, 9)}},
		api.ErrMany:  {on(make([]credit.Order, 9)...), on(append(full(5).Orders, order("i", 5))...)},
		api.ErrName:  {on(order("", 5)), on(order("1a", 5)), on(order("a b", 5)), on(order("a-b", 5)), on(order("abcdefghijklmnopqrstuvwxy", 5)), on(order("\xff", -1)), on(order("a", 5), order("", 4)), on(order("a", 5), order(" ", 5), order("a", 5))},
		api.ErrTwice: {on(order("a", 5), order("a", 5)), on(order("a", 5), order("b", 5), order("a", -1)), on(order("a", 5), order("a", 4)), on(order("a", 5), order("b", 5), order("b", 6))},
		api.ErrRange: {on(order("a", -1)), on(order("a", 100000001)), on(order("a", 5), order("b", -1)), on(order("a", math.MinInt)), on(order("a", math.MaxInt)), on(order("a", 5), order("b", 100000001), order("a", 5))},
		api.ErrOrder: {on(order("a", 5), order("b", 4)), on(order("a", 0), order("b", 9), order("c", 8)), on(order("a", 100000000), order("b", 0), order("a", 0))},
	}
}

func pick(r *rand.Rand, l ...int) int { return l[r.Intn(len(l))] }

func randomKey(r *rand.Rand) api.Key {
	var key api.Key
	for i := range key {
		key[i] = byte(pick(r, 0, 255, r.Intn(256)))
	}
	return key
}

// randomAccount returns an account with at most some used numbers.
func randomAccount(r *rand.Rand, most int) credit.Account {
	a := credit.Account{Balance: pick(r, 0, r.Intn(2000)-1000, -1000000000000, 999999990000), Debt: pick(r, 0, r.Intn(2000), 1000000000000), Share: pick(r, 0, 40, 100, r.Intn(101)), Emergency: pick(r, 0, r.Intn(2000), 100000000), Key: randomKey(r)}
	if r.Intn(2) == 0 {
		a.New, a.Changing = randomKey(r), true
	}
	number := 0
	for range r.Intn(most + 1) {
		number += 1 + r.Intn(5)
		a.Used = append(a.Used, number)
	}
	return a
}

// randomTokens returns tokens with small numbers, some of them sealed by the keys of an account.
func randomTokens(r *rand.Rand, a credit.Account, n int) []credit.Token {
	var out []credit.Token
	for range n {
		keys := []api.Key{a.Key, a.Key, a.New, randomKey(r)}
		out = append(out, value(credit.Made(keys[r.Intn(4)], 1+r.Intn(40), pick(r, 1, 1+r.Intn(2000), 100000000))))
	}
	return out
}

func randomHours(r *rand.Rand) []credit.Hours {
	var out []credit.Hours
	for range r.Intn(6) {
		from := pick(r, 0, r.Intn(86400))
		h := credit.Hours{Span: api.Span{From: from, To: pick(r, 86400, from+1+r.Intn(86400-from))}}
		for i := range h.Days {
			h.Days[i] = r.Intn(3) > 0
		}
		out = append(out, h)
	}
	return out
}

var offices = [5]string{"grid", "sales", "law", "desk", "G_1"}

// randomSwitch returns a switch that is mostly on, with orders up to a tick.
func randomSwitch(r *rand.Rand, tick int) credit.Switch {
	switch r.Intn(8) {
	case 0:
		return off()
	case 1:
		return ready()
	}
	s, at := on(), 0
	for _, i := range r.Perm(len(offices))[:r.Intn(6)] {
		at += r.Intn(tick - at + 1)
		s.Orders = append(s.Orders, order(offices[i], at))
	}
	return s
}
