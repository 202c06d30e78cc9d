package credit_test

import (
	"math"
	"math/rand"
	"testing"

	"kilovar/api"
	"kilovar/credit"
)

// P8.3

func TestCheckHours(t *testing.T) {
	for _, l := range [][]credit.Hours{nil, hours(), {daily(0, 1)}, {daily(86399, 86400)}, {daily(0, 86400)}, {span(5, 6)}, repeated(daily(0, 1), 16), {daily(0, 50), daily(20, 30), daily(0, 50)}} {
		same(t, "CheckHours", credit.CheckHours(l), api.OK)
	}
	for e, wrong := range wrongHours() {
		for _, l := range wrong {
			same(t, "CheckHours", all(l, credit.CheckHours(l)), all(l, e))
			is, f := credit.Protected(l, -1)
			same(t, "Protected", all(is, f), all(false, e))
			tick, f := credit.Free(l, -1)
			same(t, "Free", all(tick, f), all(0, e))
			tick, f = credit.Cut(account(), l, -1, 0)
			same(t, "Cut", all(tick, f), all(0, e))
			words, f := credit.Barriers(ordered(), l, -1, -1)
			same(t, "Barriers", all(words, f), all(ints(), e))
			s, f := credit.Opened(ordered(), l, -1, -1)
			same(t, "Opened", all(s, f), all(off(), e))
		}
	}
}

func TestProtectedAndFree(t *testing.T) {
	always, workdays := []credit.Hours{daily(0, 86400)}, []credit.Hours{span(0, 86400, 0, 1, 2, 3, 4)}
	chain := []credit.Hours{daily(500, 600), daily(100, 200), daily(200, 300), daily(250, 400), daily(600, 700)}
	for _, x := range []struct {
		l    []credit.Hours
		tick int
		is   bool
		free int
		e    api.Errno
	}{
		{hours(), 30000, false, 30000, api.OK}, {hours(), 20000, true, 21600, api.OK}, {hours(), 70000, true, 108000, api.OK}, {hours(), 410400, true, 626400, api.OK}, // as in the examples
		{hours(), 0, true, 21600, api.OK}, {hours(), 21599, true, 21600, api.OK}, {hours(), 21600, false, 21600, api.OK}, {hours(), 64799, false, 64799, api.OK}, {hours(), 64800, true, 108000, api.OK}, {hours(), 86399, true, 108000, api.OK}, {hours(), 86400, true, 108000, api.OK},
		{hours(), 431999, true, 626400, api.OK}, {hours(), 432000, true, 626400, api.OK}, {hours(), 462000, true, 626400, api.OK}, {hours(), 604799, true, 626400, api.OK}, {hours(), 604800, true, 626400, api.OK}, {hours(), 634800, false, 634800, api.OK},
		{nil, 0, false, 0, api.OK}, {nil, 100000000, false, 100000000, api.OK}, {[]credit.Hours{span(0, 86400)}, 5, false, 5, api.OK}, // hours of no day
		{always, 0, true, 0, api.ErrNone}, {always, 100000000, true, 0, api.ErrNone}, {[]credit.Hours{daily(1, 86400)}, 1, true, 86400, api.OK}, {[]credit.Hours{daily(0, 86399)}, 0, true, 86399, api.OK}, {[]credit.Hours{daily(0, 86399)}, 86400, true, 172799, api.OK},
		{workdays, 0, true, 432000, api.OK}, {workdays, 431999, true, 432000, api.OK}, {workdays, 432000, false, 432000, api.OK}, {workdays, 604799, false, 604799, api.OK}, {workdays, 604800, true, 1036800, api.OK},
		{chain, 99, false, 99, api.OK}, {chain, 100, true, 400, api.OK}, {chain, 260, true, 400, api.OK}, {chain, 399, true, 400, api.OK}, {chain, 400, false, 400, api.OK}, {chain, 500, true, 700, api.OK},
		// The tick 100000000 is the second 35200 of the day 1157, the day 2 of the week.
		{[]credit.Hours{daily(0, 35200)}, 99970000, true, 100000000, api.OK}, {[]credit.Hours{daily(0, 35201)}, 99970000, true, 0, api.ErrNone}, {[]credit.Hours{daily(0, 35201)}, 100000000, true, 0, api.ErrNone}, {[]credit.Hours{daily(35200, 35300)}, 99999999, false, 99999999, api.OK}, {[]credit.Hours{daily(35200, 35300)}, 100000000, true, 0, api.ErrNone}, {[]credit.Hours{span(0, 86400, 2)}, 100000000, true, 0, api.ErrNone}, {[]credit.Hours{span(0, 86400, 0, 1, 3, 4, 5, 6)}, 100000000, false, 100000000, api.OK},
	} {
		is, e := credit.Protected(x.l, x.tick)
		same(t, "Protected", all(x.l, x.tick, is, e), all(x.l, x.tick, x.is, api.OK))
		free, e := credit.Free(x.l, x.tick)
		same(t, "Free", all(x.l, x.tick, free, e), all(x.l, x.tick, x.free, x.e))
	}
	for _, tick := range append(far(), -1, 100000001) {
		is, e := credit.Protected(always, tick)
		same(t, "Protected", all(tick, is, e), all(tick, false, api.ErrRange))
		free, e := credit.Free(nil, tick)
		same(t, "Free", all(tick, free, e), all(tick, 0, api.ErrRange))
	}
}

// protects follows the words of the chapter.
func protects(l []credit.Hours, tick int) bool {
	day := int(math.Floor(float64(tick) / 86400))
	for _, h := range l {
		for second := h.Span.From; second < h.Span.To; second++ {
			if h.Days[day-7*(day/7)] && tick == 86400*day+second {
				return true
			}
		}
	}
	return false
}

func TestProtectedByDefinition(t *testing.T) {
	r := rand.New(rand.NewSource(4))
	for range 300 {
		l := randomHours(r)
		for range 5 {
			tick := pick(r, r.Intn(100000001), 86400*r.Intn(1157), 86400*r.Intn(20)+86399, r.Intn(700000))
			is, e := credit.Protected(l, tick)
			same(t, "Protected", all(l, tick, is, e), all(l, tick, protects(l, tick), api.OK))
		}
	}
}

// TestFreeTickByTick looks at one tick after the other, for a week: then the hours come again.
func TestFreeTickByTick(t *testing.T) {
	r := rand.New(rand.NewSource(5))
	for range 100 {
		l := randomHours(r)
		tick := pick(r, r.Intn(700000), 100000000-r.Intn(700000))
		want, f := tick, api.OK
		for value(credit.Protected(l, want)) && want < tick+604800 {
			want++
		}
		if want > 100000000 || want == tick+604800 {
			want, f = 0, api.ErrNone
		}
		free, e := credit.Free(l, tick)
		same(t, "Free", all(l, tick, free, e), all(l, tick, want, f))
	}
}

func TestCut(t *testing.T) {
	for _, x := range []struct {
		balance, tick, use, cut int
		e                       api.Errno
	}{
		{1000, 30000, 1, 33001, api.OK}, {1000, 64000, 1, 108000, api.OK}, // as in the examples
		{1000, 30000, 1000, 30004, api.OK}, {1000, 30000, 1001, 30003, api.OK}, {1000, 30000, 3000, 30002, api.OK}, {1000, 30000, 3001, 30001, api.OK}, {1000, 30000, 100000, 30001, api.OK},
		{-2000, 30000, 5, 30001, api.OK}, {-1999, 30000, 1, 30002, api.OK}, {-1999, 30000, 2, 30001, api.OK}, {-2001, 30000, 5, 30000, api.OK}, {-1000000000000, 30000, 1, 30000, api.OK}, {-1000000000000, 30000, 100000, 30000, api.OK},
		{-2001, 20000, 5, 21600, api.OK}, {-2001, 70000, 5, 108000, api.OK}, {-2000, 64798, 1, 64799, api.OK}, {-2000, 64799, 1, 108000, api.OK}, {-2000, 21598, 1, 21600, api.OK},
		{1000000000000, 0, 1, 0, api.ErrNone}, {1000000000000, 0, 100000, 10000001, api.OK}, {99969999, 30000, 1, 0, api.ErrNone}, {99967998, 30000, 1, 99999999, api.OK}, {99967999, 30000, 1, 100000000, api.OK}, {99968000, 30000, 1, 0, api.ErrNone}, {-2000, 100000000, 1, 0, api.ErrNone}, {-2001, 100000000, 1, 100000000, api.OK},
	} {
		a := with(account(), func(a *credit.Account) { a.Balance = x.balance })
		tick, e := credit.Cut(a, hours(), x.tick, x.use)
		same(t, "Cut", all(x, tick, e), all(x, x.cut, x.e))
	}
	tick, e := credit.Cut(account(), nil, 64000, 1)
	same(t, "Cut without hours", all(tick, e), all(67001, api.OK))
	tick, e = credit.Cut(account(), []credit.Hours{daily(0, 86400)}, 64000, 1)
	same(t, "Cut that never may be", all(tick, e), all(0, api.ErrNone))
}

func TestCutOfWrongArguments(t *testing.T) {
	for _, tick := range append(far(), -1, 100000001) {
		cut, e := credit.Cut(account(), hours(), tick, 1)
		same(t, "Cut from a wrong tick", all(tick, cut, e), all(tick, 0, api.ErrRange))
	}
	for _, use := range append(far(), -1, 0, 100001) {
		cut, e := credit.Cut(account(), nil, 5, use)
		same(t, "Cut by a wrong use", all(use, cut, e), all(use, 0, api.ErrRange))
	}
}

// TestCutSecondBySecond spends the use in one second after the other.
func TestCutSecondBySecond(t *testing.T) {
	r := rand.New(rand.NewSource(6))
	for range 300 {
		a := with(account(), func(a *credit.Account) { a.Balance = r.Intn(40000) - 4000 })
		l, start, use := randomHours(r), r.Intn(700000), pick(r, 1, 2, 7, 1+r.Intn(100), 100000)
		tick := start
		for left := value(credit.Left(a)); left >= 0; left -= use {
			tick++
		}
		want, f := credit.Free(l, tick)
		cut, e := credit.Cut(a, l, start, use)
		same(t, "Cut", all(l, start, use, cut, e), all(l, start, use, want, f))
	}
}
