package headend_test

import (
	"strconv"
	"testing"

	"kilovar/api"
	"kilovar/headend"
)

// P10.1 and P10.2: tariffs, tokens, credit, Price and Credit

func TestTariffs(t *testing.T) {
	l := shown()
	accepted(t, l, try{"tariff t 22 121 10", api.ErrShort}, try{"tariff t 22 122 10", api.OK}, try{"tariff t 22 0 10", api.ErrShort}, try{"tariff t 22 999999999 0", api.OK}, try{"tariff t 22 122 100000", api.OK}, try{"tariff t 22 122 100001", api.ErrRange}, try{"tariff t 22 121 100001", api.ErrRange}, try{"tariff t 999999999 999999999 1", api.ErrShort})
	l = grown(l, "tariff t 22 122 10")
	accepted(t, l, try{"tariff t 22 130 10", api.ErrTwice}, try{"tariff u 23 122 5", api.ErrShort}, try{"tariff u 22 122 5", api.ErrOrder}, try{"tariff u 22 123 5", api.OK}, try{"tariff u 23 123 5", api.OK})
	l = grown(l, "tariff u 22 300 5")
	accepted(t, l, try{"tariff v 22 299 5", api.ErrOrder}, try{"tariff v 22 300 5", api.ErrOrder}, try{"tariff v 22 301 5", api.OK}, try{"tariff v 210 300 5", api.ErrShort}, try{"tariff v 200 300 100001", api.ErrRange})
	same(t, "the tariffs", registerOf(t, l).Tariffs, []headend.Tariff{{Name: "t", From: 122, Price: 10}, {Name: "u", From: 300, Price: 5}})
	accepted(t, grown(l, "undo"), try{"tariff u 22 123 5", api.OK}, try{"tariff u 22 122 5", api.ErrOrder})
	l = nil
	for i := range 15 {
		l = grown(l, "tariff t"+strconv.Itoa(i)+" 0 "+strconv.Itoa(100+i)+" 7")
	}
	accepted(t, l, try{"tariff x 0 115 7", api.OK})
	l = grown(l, "tariff x 0 115 7")
	accepted(t, l, try{"tariff y 0 116 7", api.ErrMany}, try{"tariff y 0 115 7", api.ErrOrder}, try{"tariff y 0 99 7", api.ErrShort}, try{"tariff x 0 116 7", api.ErrTwice})
}

func TestPrice(t *testing.T) {
	l := shown("tariff t 22 122 10", "tariff u 30 130 5", "tariff v 30 500 0")
	for tick, price := range map[int]int{122: 10, 123: 10, 129: 10, 130: 5, 131: 5, 499: 5, 500: 0, 999999999: 0} {
		same(t, "Price at "+strconv.Itoa(tick), all(headend.Price(l, tick)), all(price, api.OK))
	}
	for _, tick := range ints(0, 30, 121) {
		same(t, "Price before the first tariff", all(headend.Price(l, tick)), all(0, api.ErrNone))
	}
	same(t, "Price without tariffs", all(headend.Price(nil, 999999999)), all(0, api.ErrNone))
	same(t, "Price after an undo", all(headend.Price(grown(l, "undo"), 500)), all(5, api.OK))
	for _, tick := range outside(0, 999999999) {
		same(t, "Price at no tick", all(headend.Price(l, tick)), all(0, api.ErrRange))
		same(t, "Price at no tick, without tariffs", all(headend.Price(nil, tick)), all(0, api.ErrRange))
	}
	for _, x := range wrongJournals() {
		same(t, "Price of a wrong journal", all(headend.Price(x.l, -1)), all(0, x.e))
	}
}

func TestTokens(t *testing.T) {
	accepted(t, shown(), try{"token k m 23 0", api.ErrRange}, try{"token k m 23 1", api.OK}, try{"token k m 23 1000000", api.OK}, try{"token k m 23 1000001", api.ErrRange})
	l := shown("token k m 23 500")
	accepted(t, l, try{"token k m 23 500", api.ErrTwice}, try{"token l m 23 500", api.OK}, try{"use k 23", api.OK})
	l = grown(l, "use k 24")
	accepted(t, l, try{"use k 25", api.ErrTwice}, try{"undo", api.ErrRule}, try{"token k m 25 500", api.ErrTwice})
	l = grown(journal("meter m 0"), lines(63, "token k* m 0 9")...)
	accepted(t, l, try{"token x m 0 9", api.OK})
	l = grown(l, "token x m 0 9")
	accepted(t, l, try{"token y m 0 9", api.ErrMany}, try{"token y m 0 0", api.ErrRange}, try{"token x m 0 9", api.ErrTwice}, try{"use x 0", api.OK})
}

func TestCredit(t *testing.T) {
	l := shown("token k m 23 500", "meter n 23", "token l n 23 7", "token o m 23 1000000")
	credits := func(l []api.Event, m, n int) {
		t.Helper()
		same(t, "Credit of m", all(headend.Credit(l, "m")), all(m, api.OK))
		same(t, "Credit of n", all(headend.Credit(l, "n")), all(n, api.OK))
	}
	credits(l, 0, 0)
	accepted(t, l, try{"spend m 25 1", api.ErrShort}, try{"spend m 25 0", api.ErrRange})
	l = grown(l, "use k 24")
	credits(l, 500, 0)
	accepted(t, l, try{"spend m 25 501", api.ErrShort}, try{"spend m 25 500", api.OK}, try{"spend m 25 0", api.ErrRange}, try{"spend n 25 1", api.ErrShort}, try{"spend m 25 999999999", api.ErrShort})
	l = grown(l, "spend m 25 499")
	credits(l, 1, 0)
	accepted(t, l, try{"spend m 25 2", api.ErrShort}, try{"spend m 25 1", api.OK})
	credits(grown(l, "undo"), 500, 0)
	l = grown(l, "use l 26", "use o 26")
	credits(l, 1000001, 7)
	for _, name := range append(wrongNames(), "k", "a", "M", "mm", "r") {
		same(t, "Credit of no meter", all(headend.Credit(l, name)), all(0, api.ErrUnknown))
	}
	same(t, "Credit after its meter was undone", all(headend.Credit(journal("meter m 0", "undo"), "m")), all(0, api.ErrUnknown))
	for _, x := range wrongJournals() {
		same(t, "Credit of a wrong journal", all(headend.Credit(x.l, "m")), all(0, x.e))
		same(t, "Credit of no meter of a wrong journal", all(headend.Credit(x.l, "")), all(0, x.e))
	}
}

// TestTheGreatestCredit uses all tokens that there may be.
func TestTheGreatestCredit(t *testing.T) {
	l := grown(grown(journal("meter m 0"), lines(64, "token k* m 0 1000000")...), lines(64, "use k* 0")...)
	same(t, "Credit", all(headend.Credit(l, "m")), all(64000000, api.OK))
	accepted(t, l, try{"spend m 0 64000000", api.OK}, try{"spend m 0 64000001", api.ErrShort})
}
