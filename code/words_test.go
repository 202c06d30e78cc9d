package code_test

import (
	"math"
	"math/rand"
	"testing"

	"kilovar/api"
	"kilovar/code"
)

// P3.1

func TestCheckCode(t *testing.T) {
	for _, x := range []struct {
		length, checks int
		e              api.Errno
	}{
		{2, 1, api.OK}, {3, 1, api.OK}, {3, 2, api.OK}, {4, 2, api.OK}, {9, 8, api.OK}, {16, 1, api.OK}, {16, 8, api.OK},
		{1, 1, api.ErrRange}, {0, 1, api.ErrRange}, {-4, 2, api.ErrRange}, {17, 1, api.ErrRange}, {17, 8, api.ErrRange}, {math.MinInt, 1, api.ErrRange}, {math.MaxInt, 1, api.ErrRange},
		{4, 0, api.ErrRange}, {4, -1, api.ErrRange}, {16, 9, api.ErrRange}, {4, 9, api.ErrRange}, {4, math.MinInt, api.ErrRange}, {4, math.MaxInt, api.ErrRange}, {9, 9, api.ErrRange},
		{0, 0, api.ErrRange}, {1, 0, api.ErrRange}, {math.MinInt, math.MaxInt, api.ErrRange}, {math.MaxInt, math.MinInt, api.ErrRange},
		{2, 2, api.ErrOrder}, {4, 4, api.ErrOrder}, {4, 5, api.ErrOrder}, {2, 8, api.ErrOrder}, {8, 8, api.ErrOrder},
	} {
		same(t, "CheckCode", all(x.length, x.checks, code.CheckCode(of(x.length, x.checks))), all(x.length, x.checks, x.e))
	}
	for length := -2; length <= 20; length++ {
		for checks := -2; checks <= 20; checks++ {
			want := api.OK
			switch {
			case length < 2 || length > 16 || checks < 1 || checks > 8:
				want = api.ErrRange
			case checks >= length:
				want = api.ErrOrder
			}
			same(t, "CheckCode", code.CheckCode(of(length, checks)), want)
		}
	}
}

func TestListsWithErrors(t *testing.T) {
	for _, x := range listErrors {
		same(t, "CheckList", all(x, code.CheckList(x.c, x.l)), all(x, x.e))
		s, e := code.Syndromes(x.c, x.l)
		same(t, "Syndromes with errors", all(s, e), all(ints(), x.e))
		is, e := code.IsWord(x.c, x.l)
		same(t, "IsWord with errors", all(is, e), all(false, x.e))
		m, e := code.Message(x.c, x.l)
		same(t, "Message with errors", all(m, e), all(ints(), x.e))
	}
	same(t, "CheckList of 16 symbols", code.CheckList(of(16, 8), repeated(16, 16)), api.OK)
	same(t, "CheckList of 2 symbols", code.CheckList(of(2, 1), ints(0, 16)), api.OK)
}

func TestSyndromes(t *testing.T) {
	for _, x := range []struct {
		c    code.Code
		l, s []int
	}{
		{small(), ints(0, 0, 1, 0), ints(9, 13)},
		{small(), ints(5, 5, 1, 0), ints(12, 12)},
		{small(), ints(10, 5, 1, 0), ints(0, 0)},
		{small(), ints(1, 2, 0, 1), ints(0, 0)},
		{small(), ints(16, 16, 16, 16), ints(11, 13)},
		{small(), ints(0, 0, 0, 0), ints(0, 0)},
		{of(2, 1), ints(1, 0), ints(1)},
		{of(2, 1), ints(0, 1), ints(3)},
		{of(9, 8), ints(0, 1, 0, 0, 0, 0, 0, 0, 0), ints(3, 9, 10, 13, 5, 15, 11, 16)},
		{of(16, 8), append(make([]int, 15), 1), ints(6, 2, 12, 4, 7, 8, 14, 16)},
	} {
		s, e := code.Syndromes(x.c, x.l)
		same(t, "Syndromes", all(s, e), all(x.s, api.OK))
	}
}

func TestRandomSyndromes(t *testing.T) {
	r := rand.New(rand.NewSource(1))
	for _, c := range allCodes(15) {
		for range 20 {
			l := randomSymbols(r, c.Length)
			s, e := code.Syndromes(c, l)
			same(t, "Syndromes", all(s, e), all(syndromesOf(c, l), api.OK))
			is, e := code.IsWord(c, l)
			same(t, "IsWord", all(is, e), all(isWordOf(c, l), api.OK))
		}
	}
}

func TestIsWord(t *testing.T) {
	for _, x := range []struct {
		c    code.Code
		l    []int
		want bool
	}{
		{small(), ints(10, 5, 1, 0), true}, {small(), ints(1, 2, 0, 1), true}, {small(), ints(11, 7, 1, 1), true}, {small(), ints(0, 0, 0, 0), true},
		{small(), ints(10, 5, 1, 7), false}, {small(), ints(0, 0, 1, 0), false}, {small(), ints(0, 1, 2, 0), false},
		{of(2, 1), ints(2, 5), true}, {of(2, 1), ints(5, 2), false},
		{small(), ints(14, 1, 0, 0), false}, // the syndrome 1 alone is 0
		{small(), ints(8, 1, 0, 0), false},  // the syndrome 2 alone is 0
	} {
		is, e := code.IsWord(x.c, x.l)
		same(t, "IsWord", all(x.l, is, e), all(x.l, x.want, api.OK))
	}
}

func TestWordsAreTheMultiplesOfTheGenerator(t *testing.T) {
	for _, c := range allCodes(2) {
		for _, w := range wordsOf(c) {
			is, e := code.IsWord(c, w)
			same(t, "IsWord", all(is, e), all(true, api.OK))
			w[c.Length-1] = (w[c.Length-1] + 1) % 17
			is, e = code.IsWord(c, w)
			same(t, "IsWord of a word that is spoilt", all(is, e), all(false, api.OK))
		}
	}
}

func TestEncode(t *testing.T) {
	for _, x := range []struct {
		c          code.Code
		message, w []int
	}{
		{small(), ints(1, 0), ints(10, 5, 1, 0)}, {small(), ints(0, 1), ints(1, 2, 0, 1)}, {small(), ints(1, 1), ints(11, 7, 1, 1)}, {small(), ints(2, 0), ints(3, 10, 2, 0)}, {small(), ints(0, 0), ints(0, 0, 0, 0)},
		{of(2, 1), ints(5), ints(2, 5)}, {of(3, 2), ints(1), ints(10, 5, 1)},
	} {
		w, e := code.Encode(x.c, x.message)
		same(t, "Encode", all(w, e), all(x.w, api.OK))
		m, e := code.Message(x.c, x.w)
		same(t, "Message", all(m, e), all(x.message, api.OK))
	}
}

func TestEncodeOfAllCodes(t *testing.T) {
	r := rand.New(rand.NewSource(2))
	for _, c := range allCodes(15) {
		for _, message := range lists(randomSymbols(r, c.Length-c.Checks), randomSymbols(r, c.Length-c.Checks), repeated(16, c.Length-c.Checks), make([]int, c.Length-c.Checks)) {
			w, e := code.Encode(c, message)
			same(t, "Encode", all(len(w), e), all(c.Length, api.OK))
			if !isWordOf(c, w) {
				t.Fatalf("%v is no word of %v", w, c)
			}
			same(t, "the message of a word", w[c.Checks:], message)
		}
	}
}

func TestEncodeWithErrors(t *testing.T) {
	for _, x := range []struct {
		c       code.Code
		message []int
		e       api.Errno
	}{
		{of(17, 1), ints(17), api.ErrRange}, {of(4, 0), ints(1, 2, 3, 4), api.ErrRange}, {of(4, 4), nil, api.ErrOrder}, {of(4, 5), ints(1), api.ErrOrder},
		{small(), nil, api.ErrShape}, {small(), ints(1), api.ErrShape}, {small(), ints(1, 2, 3), api.ErrShape}, {small(), ints(10, 5, 1, 0), api.ErrShape}, {small(), ints(17, 1, 1), api.ErrShape},
		{small(), ints(1, 17), api.ErrRange}, {small(), ints(17, 1), api.ErrRange}, {small(), ints(-1, 1), api.ErrRange}, {small(), ints(1, math.MinInt), api.ErrRange},
	} {
		w, e := code.Encode(x.c, x.message)
		same(t, "Encode with errors", all(w, e), all(ints(), x.e))
	}
}

func TestMessageOfNoWord(t *testing.T) {
	for _, l := range lists(ints(11, 7, 1, 2), ints(0, 0, 0, 1), ints(1, 0, 0, 0), ints(14, 1, 0, 0), ints(8, 1, 0, 0)) {
		m, e := code.Message(small(), l)
		same(t, "Message of no word", all(m, e), all(ints(), api.ErrCheck))
	}
}

func TestDistance(t *testing.T) {
	for _, x := range []struct {
		a, b []int
		n    int
		e    api.Errno
	}{
		{ints(10, 5, 1, 0), ints(1, 2, 0, 1), 4, api.OK}, {ints(10, 5, 1, 0), ints(11, 7, 1, 1), 3, api.OK}, {ints(10, 5, 1, 0), ints(10, 5, 1, 0), 0, api.OK},
		{nil, nil, 0, api.OK}, {nil, ints(), 0, api.OK}, {ints(16), ints(0), 1, api.OK}, {ints(1, 2), ints(2, 1), 2, api.OK},
		{make([]int, 256), repeated(16, 256), 256, api.OK}, {make([]int, 256), append(make([]int, 255), 1), 1, api.OK},
		{ints(1), nil, 0, api.ErrShape}, {nil, ints(1), 0, api.ErrShape}, {ints(1, 2), ints(1, 2, 3), 0, api.ErrShape},
		{ints(17), make([]int, 257), 0, api.ErrRange}, {make([]int, 257), ints(17), 0, api.ErrMany},
	} {
		n, e := code.Distance(x.a, x.b)
		same(t, "Distance", all(n, e), all(x.n, x.e))
	}
	for _, x := range freeErrors {
		n, e := code.Distance(x.l, nil)
		same(t, "Distance with errors of the first list", all(n, e), all(0, x.e))
		n, e = code.Distance(nil, x.l)
		same(t, "Distance with errors of the second list", all(n, e), all(0, x.e))
	}
}
