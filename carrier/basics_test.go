package carrier_test

import (
	"math"
	"slices"
	"strings"
	"testing"

	"kilovar/api"
	"kilovar/carrier"
)

// P1.1

func TestNames(t *testing.T) {
	for s, is := range map[string]bool{
		"a": true, "Z": true, "node_9": true, "A__": true, "x0": true,
		strings.Repeat("a", 24): true, strings.Repeat("a", 25): false, "b" + strings.Repeat("_", 23): true,
		"": false, "9": false, "_": false, "_a": false, "9a": false, " a": false, "a ": false, "a b": false, "a-b": false, "a.b": false, "a\n": false, "a\x00": false,
		"\u00e4": false, "a\u00e4": false, "a\u0661": false, "\uff21": false, "a\xff": false, "\x80": false, strings.Repeat("\u00e4", 12): false,
	} {
		same(t, "IsName("+s+")", carrier.IsName(s), is)
	}
}

func TestNamesOfAllBytes(t *testing.T) {
	const letters = "ABCDEFGHIJKLMNOPQRSTUVWXYZabcdefghijklmnopqrstuvwxyz"
	for b := range 256 {
		c := string([]byte{byte(b)})
		same(t, "name that is "+c, carrier.IsName(c), strings.Contains(letters, c))
		same(t, "name that ends with "+c, carrier.IsName("a"+c), strings.Contains(letters+"0123456789_", c))
	}
}

func TestDraw(t *testing.T) {
	for _, x := range []struct {
		number, n int
		want      []int
	}{
		{1, 2, ints(1, 0)},
		{1, 5, ints(3, 4, 0, 2, 1)},
		{7, 8, ints(3, 6, 4, 1, 5, 0, 7, 2)},
		{2147483646, 6, ints(5, 0, 4, 1, 2, 3)},
		{12345, 10, ints(4, 8, 0, 3, 1, 2, 5, 7, 6, 9)},
		{5, 1, ints(0)},
		{5, 0, nil},
	} {
		l, e := carrier.Draw(x.number, x.n)
		sameResult(t, "Draw", l, e, x.want, api.OK)
	}
}

func TestDrawWithErrors(t *testing.T) {
	for _, x := range [][2]int{{0, 3}, {-1, 3}, {2147483647, 3}, {math.MinInt, 3}, {math.MaxInt, 3}, {5, -1}, {5, 257}, {5, math.MinInt}, {5, math.MaxInt}, {0, 257}} {
		l, e := carrier.Draw(x[0], x[1])
		sameResult(t, "Draw", l, e, nil, api.ErrRange)
	}
}

func TestDrawOfAllSizes(t *testing.T) {
	for n := range 257 {
		l, e := carrier.Draw(99, n)
		slices.Sort(l)
		same(t, "Draw: error", e, api.OK)
		same(t, "Draw: elements", len(l), n)
		for i, x := range l {
			same(t, "Draw: element", x, i)
		}
	}
	l, _ := carrier.Draw(1, 256)
	sameList(t, "Draw: first of 256", l[:4], ints(17, 214, 182, 247))
	sameList(t, "Draw: last of 256", l[252:], ints(176, 226, 90, 208))
}

func TestRatios(t *testing.T) {
	for x, e := range map[api.Ratio]api.Errno{
		{Num: 3, Den: 4}: api.OK, {Num: -3, Den: 4}: api.OK, {Num: 0, Den: 1}: api.OK, {Num: 1, Den: 1}: api.OK, {Num: 7, Den: 1}: api.OK,
		{Num: 999999999, Den: 999999998}: api.OK, {Num: -999999999, Den: 1}: api.OK, {Num: 1, Den: 999999999}: api.OK,
		{Num: 2, Den: 4}: api.ErrForm, {Num: -2, Den: 4}: api.ErrForm, {Num: 0, Den: 2}: api.ErrForm, {Num: 0, Den: 999999999}: api.ErrForm, {Num: 5, Den: 5}: api.ErrForm, {Num: -6, Den: 3}: api.ErrForm, {Num: 999999999, Den: 999999999}: api.ErrForm, {Num: 35, Den: 21}: api.ErrForm,
		{Num: 1, Den: 0}: api.ErrRange, {Num: 0, Den: 0}: api.ErrRange, {Num: 1, Den: -1}: api.ErrRange, {Num: 2, Den: -4}: api.ErrRange, {Num: 1000000000, Den: 1}: api.ErrRange, {Num: -1000000000, Den: 1}: api.ErrRange, {Num: 1, Den: 1000000000}: api.ErrRange,
		{Num: 1000000000, Den: 2}: api.ErrRange, {Num: 2, Den: 1000000000}: api.ErrRange, {Num: math.MinInt, Den: math.MinInt}: api.ErrRange, {Num: math.MaxInt, Den: math.MaxInt}: api.ErrRange, {}: api.ErrRange,
	} {
		if got := carrier.CheckRatio(x); got != e {
			t.Errorf("CheckRatio(%v): got %d, want %d", x, got, e)
		}
	}
}

var sampleErrors = []struct {
	x float32
	e api.Errno
}{
	{0, api.OK}, {minus0, api.OK}, {0.0625, api.OK}, {-0.0625, api.OK}, {1024, api.OK}, {-1024, api.OK}, {1023.9375, api.OK}, {-0.9375, api.OK},
	{1024.0625, api.ErrRange}, {-1024.0625, api.ErrRange}, {0.03125, api.ErrRange}, {-0.03125, api.ErrRange}, {0.1, api.ErrRange}, {1023.96875, api.ErrRange}, {2000, api.ErrRange},
	{math.SmallestNonzeroFloat32, api.ErrRange}, {math.MaxFloat32, api.ErrRange}, {-math.MaxFloat32, api.ErrRange},
	{nan, api.ErrForm}, {infinite, api.ErrForm}, {-infinite, api.ErrForm},
}

func TestSamples(t *testing.T) {
	for _, x := range sampleErrors {
		if e := carrier.CheckSample(x.x); e != x.e {
			t.Errorf("CheckSample(%v): got %d, want %d", x.x, e, x.e)
		}
		if e := carrier.CheckSamples(floats(0, x.x, 1)); e != x.e {
			t.Errorf("CheckSamples with %v: got %d, want %d", x.x, e, x.e)
		}
	}
}

func TestLists(t *testing.T) {
	same(t, "no samples", carrier.CheckSamples(nil), api.OK)
	same(t, "4096 samples", carrier.CheckSamples(make([]float32, 4096)), api.OK)
	same(t, "4097 samples", carrier.CheckSamples(make([]float32, 4097)), api.ErrMany)
	same(t, "too many before a wrong one", carrier.CheckSamples(repeated(nan, 4097)), api.ErrMany)
	same(t, "the first wrong one is no number", carrier.CheckSamples(floats(1, nan, 2000)), api.ErrForm)
	same(t, "the first wrong one is too large", carrier.CheckSamples(floats(1, 2000, nan)), api.ErrRange)
	same(t, "the last one is wrong", carrier.CheckSamples(append(make([]float32, 4095), 0.01)), api.ErrRange)
}
