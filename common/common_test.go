package common_test

import (
	"slices"
	"strings"
	"testing"

	"kilovar/api"
	"kilovar/common"
)

func same[T comparable](t *testing.T, what string, got, want T) {
	t.Helper()
	if got != want {
		t.Errorf("%s: got %v, want %v", what, got, want)
	}
}

func TestFirst(t *testing.T) {
	same(t, "First of none", common.First(), api.OK)
	same(t, "First of OK alone", common.First(api.OK, api.OK), api.OK)
	same(t, "First", common.First(api.OK, api.ErrZero, api.ErrRange), api.ErrZero)
	same(t, "FailIf", common.FailIf(true, api.ErrZero), api.ErrZero)
	same(t, "FailIf not", common.FailIf(false, api.ErrZero), api.OK)
}

func TestNumbers(t *testing.T) {
	for x, e := range map[int]api.Errno{1: api.ErrRange, 2: api.OK, 3: api.OK, 4: api.ErrRange, -3: api.ErrRange} {
		same(t, "Within", common.Within(x, 2, 3), e)
		same(t, "In", common.In(2, 3)(x), e)
	}
	for i, e := range map[int]api.Errno{-1: api.ErrUnknown, 0: api.OK, 1: api.OK, 2: api.ErrUnknown} {
		same(t, "Index", common.Index(i, 2), e)
	}
}

func TestName(t *testing.T) {
	for name, e := range map[string]api.Errno{"a": api.OK, "Z_9": api.OK, "abcdefghijklmnopqrstuvwx": api.OK, "": api.ErrName, "9": api.ErrName, "_": api.ErrName, "a b": api.ErrName, "a\xff": api.ErrName, "abcdefghijklmnopqrstuvwxy": api.ErrName} {
		same(t, "Name "+name, common.Name(name), e)
	}
}

func TestOnce(t *testing.T) {
	for _, x := range []struct {
		l []string
		e api.Errno
	}{{nil, api.OK}, {[]string{""}, api.OK}, {[]string{"a", "A", "b", ""}, api.OK}, {[]string{"a", "a"}, api.ErrTwice}, {[]string{"a", "b", "a"}, api.ErrTwice}, {[]string{"", "b", ""}, api.ErrTwice}} {
		same(t, "Once", common.Each(x.l, common.Once[string]()), x.e)
	}
	once := common.Once[int]()
	for _, e := range []api.Errno{api.OK, api.ErrTwice, api.ErrTwice} {
		same(t, "Once of one number", once(7), e)
	}
}

func TestAscending(t *testing.T) {
	for _, x := range []struct {
		l []int
		e api.Errno
	}{{nil, api.OK}, {[]int{0}, api.OK}, {[]int{0, 1, 3}, api.OK}, {[]int{1, 3}, api.OK}, {[]int{0, 0}, api.ErrOrder}, {[]int{2, 1}, api.ErrOrder}, {[]int{0, 3, 2}, api.ErrOrder}, {[]int{4}, api.ErrUnknown}, {[]int{-1}, api.ErrUnknown}, {[]int{1, -1}, api.ErrUnknown}, {[]int{1, 0, 4}, api.ErrOrder}, {[]int{1, 4, 0}, api.ErrUnknown}} {
		same(t, "Ascending", common.Each(x.l, common.Ascending(4)), x.e)
	}
}

func TestRising(t *testing.T) {
	for _, x := range []struct {
		l []int
		e api.Errno
	}{{nil, api.OK}, {[]int{-7}, api.OK}, {[]int{-7, -6, 0, 5}, api.OK}, {[]int{3, 3}, api.ErrOrder}, {[]int{3, 2}, api.ErrOrder}, {[]int{1, 3, 2}, api.ErrOrder}, {[]int{0, 1, 2, 2}, api.ErrOrder}} {
		same(t, "Rising", common.Each(x.l, common.Rising()), x.e)
	}
}

func TestLists(t *testing.T) {
	check := func(x int) api.Errno { return api.Errno(x) }
	l := []int{0, int(api.ErrZero), int(api.ErrRange)}
	same(t, "Each", common.Each(l, check), api.ErrZero)
	same(t, "Each of none", common.Each(nil, check), api.OK)
	same(t, "AtMost", common.AtMost(l, 3, check), api.ErrZero)
	same(t, "AtMost of too many", common.AtMost(l, 2, check), api.ErrMany)
	same(t, "AtMost of none", common.AtMost(nil, 0, check), api.OK)
	same(t, "Some", common.Some(l[:1], 1, check), api.OK)
	same(t, "Some of none", common.Some(nil, 1, check), api.ErrEmpty)
	same(t, "Some of too many", common.Some(l, 2, check), api.ErrMany)
	if got := common.Mapped([]int{1, 2}, func(x int) string { return string(rune('a' + x)) }); !slices.Equal(got, []string{"b", "c"}) {
		t.Errorf("Mapped: got %v", got)
	}
	above := func(x, other int) bool { return x > other }
	if got := common.Filtered([]int{1, 5, 2, 3}, above, 2); !slices.Equal(got, []int{5, 3}) {
		t.Errorf("Filtered: got %v", got)
	}
	same(t, "Filtered to nothing", len(common.Filtered([]int{1, 5}, above, 7)), 0)
}

func TestLines(t *testing.T) {
	for text, want := range map[string][]string{"": nil, "\n": {"\n"}, "a\nb\n": {"a\n", "b\n"}, "a\nb": {"a\n", "b"}, "a\n\n": {"a\n", "\n"}, "a": {"a"}} {
		if got := common.Lines(text); !slices.Equal(got, want) {
			t.Errorf("Lines of %q: got %q", text, got)
		}
	}
}

func TestWords(t *testing.T) {
	for line, want := range map[string][]string{"a b\n": {"a", "b"}, "a  b\n": {"a", "", "b"}, " a\n": {"", "a"}, "a \n": {"a", ""}, "\n": {""}, "a\tb\n": {"a\tb"}} {
		words, ended := common.WordsOf(line)
		same(t, "a line feed at the end", ended, true)
		var got []string
		for word, ok := words.Take(); ok; word, ok = words.Take() {
			got = append(got, word)
		}
		if !slices.Equal(got, want) {
			t.Errorf("words of %q: got %q", line, got)
		}
	}
	_, ended := common.WordsOf("a b")
	same(t, "no line feed at the end", ended, false)
	words := common.WordsIn("a\n b\n") // a line feed is no end of a string
	for _, want := range []string{"a\n", "b\n", ""} {
		word, ok := words.Take()
		same(t, "a word of a string", word, want)
		same(t, "whether there is one", ok, want != "")
	}
}

func TestInteger(t *testing.T) {
	for word, want := range map[string]int{"0": 0, "7": 7, "-7": -7, "10": 10, "999999999": 999999999, "-999999999": -999999999} {
		n, ok := common.Integer(word)
		same(t, "Integer "+word, n, want)
		same(t, "Integer "+word, ok, true)
	}
	for _, word := range []string{"", "-", "-0", "00", "01", "-01", "+1", "--1", "1-", " 1", "1 ", "1_0", "0x1", "1.0", "1e3", "a", "\u0661", "1\xff", "1\n", "1000000000", "-1000000000"} {
		n, ok := common.Integer(word)
		same(t, "Integer "+word, n, 0)
		same(t, "Integer "+word, ok, false)
	}
}

func TestMoney(t *testing.T) {
	for word, want := range map[string]int{"0": 0, "-7": -7, "999999999": 999999999, "1000000000": 1000000000, "-1000000000000": -1000000000000, "9999999999999": 9999999999999} {
		n, ok := common.Money(word)
		same(t, "Money "+word, n, want)
		same(t, "Money "+word, ok, true)
	}
	for _, word := range []string{"", "-", "-0", "00", "01", "-01", "+1", "--1", " 1", "1_0", "a", "1\n", "10000000000000", "-10000000000000", "0000000000001"} {
		n, ok := common.Money(word)
		same(t, "Money "+word, n, 0)
		same(t, "Money "+word, ok, false)
	}
}

func TestNatural(t *testing.T) {
	for word, want := range map[string]int{"0": 0, "7": 7, "10": 10, "999999999": 999999999} {
		n, ok := common.Natural(word)
		same(t, "Natural "+word, n, want)
		same(t, "Natural "+word, ok, true)
	}
	for _, word := range []string{"", "-", "-0", "-7", "00", "01", "+1", " 1", "1 ", "1_0", "0x1", "1.0", "1e3", "a", "\u0661", "1\xff", "1\n", "1000000000"} {
		n, ok := common.Natural(word)
		same(t, "Natural "+word, n, 0)
		same(t, "Natural "+word, ok, false)
	}
}

func TestNaturals(t *testing.T) {
	for line, want := range map[string][]int{"a\n": nil, "a 1\n": {1}, "a 0 12 999999999\n": {0, 12, 999999999}, "\n": nil, " 7\n": {7}, "7 8\n": {8}} {
		first, numbers, ok := common.Naturals(line)
		word, _, _ := strings.Cut(strings.TrimSuffix(line, "\n"), " ")
		same(t, "Naturals: the first word of "+line, first, word)
		same(t, "Naturals of "+line, ok, true)
		if !slices.Equal(numbers, want) {
			t.Errorf("Naturals of %q: got %v", line, numbers)
		}
	}
	for _, line := range []string{"", "a", "a 1", "a 1 \n", "a  1\n", "a \n", "a -1\n", "a 01\n", "a 1\n\n", "a 1\n2\n", "a x\n", "a 1 x\n", "a x 1\n", "a 1000000000\n"} {
		first, numbers, ok := common.Naturals(line)
		same(t, "Naturals: no first word of "+line, first, "")
		same(t, "Naturals of "+line, ok, false)
		same(t, "Naturals: no numbers of "+line, len(numbers), 0)
	}
}

func TestIntegers(t *testing.T) {
	for line, want := range map[string][]int{"": nil, "7": {7}, "0 -12 999999999": {0, -12, 999999999}, "-999999999": {-999999999}} {
		words := strings.Fields(line)
		numbers, ok := common.Integers(takerOf(words))
		same(t, "Integers of "+line, ok, true)
		if !slices.Equal(numbers, want) {
			t.Errorf("Integers of %q: got %v", line, numbers)
		}
	}
	for _, words := range [][]string{{""}, {"x"}, {"1", ""}, {"1", "", "2"}, {"1", "-0"}, {"01", "1"}, {"1", "1000000000"}, {"1", "x", "2"}} {
		numbers, ok := common.Integers(takerOf(words))
		same(t, "Integers: error", ok, false)
		same(t, "Integers: no numbers", len(numbers), 0)
	}
}

func TestNumbersOfWords(t *testing.T) {
	numbers, ok := common.Numbers(takerOf([]string{"-1000000000", "3"}), common.Money)
	same(t, "Numbers", ok, true)
	if !slices.Equal(numbers, []int{-1000000000, 3}) {
		t.Errorf("Numbers: got %v", numbers)
	}
	numbers, ok = common.Numbers(takerOf([]string{"3", "-1"}), common.Natural)
	same(t, "Numbers: error", ok, false)
	same(t, "Numbers: no numbers", len(numbers), 0)
}

// takerOf takes one word after the other.
func takerOf(words []string) common.Taker {
	return func() (string, bool) {
		if len(words) == 0 {
			return "", false
		}
		word := words[0]
		words = words[1:]
		return word, true
	}
}

func TestLine(t *testing.T) {
	same(t, "Line without numbers", common.Line("a"), "a\n")
	same(t, "Line", common.Line("a", 7), "a 7\n")
	same(t, "Line of several numbers", common.Line("prices", 0, -12, 999999999), "prices 0 -12 999999999\n")
}

// sum is what a text of some lines says: a line `first` with a number, and lines `more` with two words that are not empty.
type sum struct {
	n     int
	words string
}

func sumForms() map[string]common.LineForm[sum] {
	return map[string]common.LineForm[sum]{
		"first": {
			Stands: func(index int, before sum) bool { return index == 0 && before == sum{} },
			Read: func(out *sum, take common.Taker) bool {
				word, _ := take()
				n, ok := common.Natural(word)
				out.n = n
				return ok
			},
		},
		"more": {
			Stands: func(index int, before sum) bool { return index > 0 && len(before.words) < 4 },
			Read: func(out *sum, take common.Taker) bool {
				one, _ := take()
				two, _ := take()
				out.words += one + two
				return one != "" && two != ""
			},
		},
	}
}

func TestParsed(t *testing.T) {
	check := func(x sum) api.Errno { return common.FailIf(x.n > 7, api.ErrRange) }
	for text, want := range map[string]sum{"": {}, "first 7\n": {n: 7}, "first 7\nmore a b\nmore c d\n": {n: 7, words: "abcd"}} {
		x, i, e := common.Parsed(text, sumForms(), check)
		same(t, "Parsed: "+text, x, want)
		same(t, "Parsed: index", i, 0)
		same(t, "Parsed: error", e, api.OK)
	}
	for text, want := range map[string]struct {
		i int
		e api.Errno
	}{
		"first 7": {0, api.ErrSyntax}, "\n": {0, api.ErrSyntax}, "first\n": {0, api.ErrSyntax}, "first 7 \n": {0, api.ErrSyntax}, "first 7 7\n": {0, api.ErrSyntax}, "other 7\n": {0, api.ErrSyntax}, "more a b\n": {0, api.ErrSyntax}, "first 8 8\nx\n": {0, api.ErrSyntax},
		"first 7\nfirst 7\n": {1, api.ErrSyntax}, "first 7\nmore a\n": {1, api.ErrSyntax}, "first 8\nmore a b": {1, api.ErrSyntax}, "first 7\n\n": {1, api.ErrSyntax}, "first 7\nmore a b\nmore a b\nmore a b\n": {3, api.ErrSyntax},
		"first 8\n": {1, api.ErrRange}, "first 8\nmore a b\n": {2, api.ErrRange}, strings.Repeat("x", 4096): {0, api.ErrSyntax}, strings.Repeat("x", 4097): {0, api.ErrLong},
	} {
		x, i, e := common.Parsed(text, sumForms(), check)
		same(t, "Parsed: nothing of "+text, x, sum{})
		same(t, "Parsed: index of "+text, i, want.i)
		same(t, "Parsed: error of "+text, e, want.e)
	}
}
