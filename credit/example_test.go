package credit_test

import (
	"fmt"

	"kilovar/api"
	"kilovar/credit"
)

// An account is credited with tokens, its supply is cut outside of protected hours, and a switch is opened and closed again.
func Example() {
	a, _, e := credit.Parse("account 1000 500 40 2000\nkey 1 2 3 4 5 6 7 8\n")
	if e != api.OK {
		fmt.Println("error", e)
		return
	}
	token, _ := credit.Made(a.Key, 7, 1000)
	block, _ := credit.Packed(token)
	fmt.Println(block[:8])
	a, e = credit.Credited(a, token)
	_, twice := credit.Credited(a, token)
	fmt.Println(a.Balance, a.Debt, a.Used, e, twice == api.ErrTwice)

	week := [7]bool{true, true, true, true, true, true, true}
	hours := []credit.Hours{{Days: week, Span: api.Span{To: 21600}}, {Days: week, Span: api.Span{From: 64800, To: 86400}}}
	a, _ = credit.Spent(a, 600)
	left, _ := credit.Left(a)
	cut, _ := credit.Cut(a, hours, 64000, 1)
	fmt.Println(left, cut)

	s, _ := credit.Ordered(credit.Switch{On: true}, "grid", 30000)
	one, _ := credit.Barriers(s, hours, 40000, 10000)
	s, _ = credit.Ordered(s, "sales", 31000)
	two, _ := credit.Barriers(s, hours, 40000, 10000)
	fmt.Println(one, two)
	s, _ = credit.Opened(s, hours, 40000, 10000)
	_, locked := credit.Confirmed(s)
	s, _ = credit.Released(s)
	s, _ = credit.Confirmed(s)
	fmt.Println(locked == api.ErrLocked, s.On)
	// Output:
	// [0 0 0 7 0 0 3 232]
	// 1600 100 [7] 0 true
	// 3000 108000
	// [offices] []
	// true true
}
