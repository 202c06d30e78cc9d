package carrier_test

import (
	"math"
	"math/rand"
	"slices"
	"strconv"
	"strings"
	"testing"

	"kilovar/api"
	"kilovar/carrier"
)

// P1.5

// streamOf computes a stream with a number and the bits of floats, with its seal.
func streamOf(number int, words ...uint32) []byte {
	s := []byte("KVAR")
	for _, w := range append([]uint32{uint32(number)}, words...) {
		s = append(s, byte(w>>24), byte(w>>16), byte(w>>8), byte(w))
	}
	seal := sealedBy(api.Key{}, s)
	return append(s, seal[:]...)
}

func words(l []float32) []uint32 {
	var out []uint32
	for _, x := range l {
		out = append(out, math.Float32bits(x))
	}
	return out
}

func TestPack(t *testing.T) {
	s, e := carrier.Pack(floats(1, -0.5))
	sameResult(t, "Pack", s, e, streamOf(2, 0x3f800000, 0xbf000000), api.OK)
	same(t, "Pack: bytes", len(s), 24)
	s, e = carrier.Pack(nil)
	sameResult(t, "Pack of nothing", s, e, streamOf(0), api.OK)
	s, e = carrier.Pack(floats(minus0, 0, minus0))
	sameResult(t, "Pack of -0", s, e, streamOf(3, 0, 0, 0), api.OK)
	s, e = carrier.Pack(floats(1024, -1024, 0.0625, -1023.9375))
	sameResult(t, "Pack of the ends of the range", s, e, streamOf(4, words(floats(1024, -1024, 0.0625, -1023.9375))...), api.OK)
	s, e = carrier.Pack(make([]float32, 4096))
	sameResult(t, "Pack of the most", s, e, streamOf(4096, make([]uint32, 4096)...), api.OK)
	for _, x := range []struct {
		l []float32
		e api.Errno
	}{{make([]float32, 4097), api.ErrMany}, {floats(1, nan, 2000), api.ErrForm}, {floats(1, 2000, nan), api.ErrRange}} {
		s, e := carrier.Pack(x.l)
		sameResult(t, "Pack with errors", s, e, nil, x.e)
	}
}

func TestUnpack(t *testing.T) {
	r := rand.New(rand.NewSource(6))
	for _, n := range []int{0, 1, 2, 100, 4096} {
		l := randomSamples(r, n)
		for i, x := range l {
			if x == 0 {
				l[i] = 1
			}
		}
		got, e := carrier.Unpack(streamOf(n, words(l)...))
		sameResult(t, "Unpack", got, e, l, api.OK)
	}
	got, e := carrier.Unpack(streamOf(1, 0))
	sameResult(t, "Unpack of 0", got, e, floats(0), api.OK)
}

func TestUnpackWithErrors(t *testing.T) {
	s := streamOf(2, 0x3f800000, 0xbf000000)
	changed := slices.Clone(s)
	changed[9]++
	const negative0 = 1 << 31
	for i, x := range []struct {
		s []byte
		e api.Errno
	}{
		{make([]byte, 400001), api.ErrLong}, {append(slices.Clone(s), make([]byte, 400001)...), api.ErrLong}, {append(slices.Clone(s), make([]byte, 400000-len(s))...), api.ErrShape}, {make([]byte, 400000), api.ErrForm},
		{nil, api.ErrTorn}, {s[:3], api.ErrTorn}, {[]byte("abc"), api.ErrTorn},
		{[]byte("abcd"), api.ErrForm}, {[]byte("KVAS"), api.ErrForm}, {[]byte("kvar"), api.ErrForm}, {append([]byte("KVAS"), s[4:]...), api.ErrForm}, {append([]byte(" "), s...), api.ErrForm},
		{s[:4], api.ErrTorn}, {s[:7], api.ErrTorn},
		{[]byte{'K', 'V', 'A', 'R', 0, 0, 16, 1}, api.ErrMany}, {[]byte{'K', 'V', 'A', 'R', 255, 255, 255, 255}, api.ErrMany}, {[]byte{'K', 'V', 'A', 'R', 1, 0, 0, 0}, api.ErrMany}, {[]byte{'K', 'V', 'A', 'R', 128, 0, 0, 1, 0}, api.ErrMany}, {streamOf(4097, make([]uint32, 4097)...), api.ErrMany},
		{[]byte{'K', 'V', 'A', 'R', 0, 0, 16, 0}, api.ErrTorn}, {s[:8], api.ErrTorn}, {s[:23], api.ErrTorn}, {streamOf(3, 0, 0), api.ErrTorn},
		{append(slices.Clone(s), 0), api.ErrShape}, {append(slices.Clone(s), s...), api.ErrShape}, {streamOf(1, 0, 0), api.ErrShape},
		{changed, api.ErrCheck}, {append(slices.Clone(s[:16]), make([]byte, 8)...), api.ErrCheck}, {append(slices.Clone(s[:23]), s[23]+1), api.ErrCheck},
		{streamOf(1, math.Float32bits(nan)), api.ErrForm}, {streamOf(1, math.Float32bits(-infinite)), api.ErrForm}, {streamOf(1, math.Float32bits(2000)), api.ErrRange}, {streamOf(1, math.Float32bits(0.03125)), api.ErrRange}, {streamOf(1, 1), api.ErrRange},
		{streamOf(2, math.Float32bits(2000), math.Float32bits(nan)), api.ErrRange},
		{streamOf(1, negative0), api.ErrForm}, {streamOf(2, 0, negative0), api.ErrForm},
		{streamOf(2, negative0, math.Float32bits(2000)), api.ErrRange},
	} {
		l, e := carrier.Unpack(x.s)
		sameResult(t, "Unpack "+strconv.Itoa(i), l, e, nil, x.e)
	}
}

func TestPrint(t *testing.T) {
	for _, x := range []struct {
		l    []float32
		want string
		e    api.Errno
	}{
		{floats(1, -0.5), "series 2\nsample 16\nsample -8\n", api.OK},
		{nil, "series 0\n", api.OK},
		{floats(minus0, 1024, -1024, 0.0625), "series 4\nsample 0\nsample 16384\nsample -16384\nsample 1\n", api.OK},
		{make([]float32, 4096), "series 4096\n" + strings.Repeat("sample 0\n", 4096), api.OK},
		{make([]float32, 4097), "", api.ErrMany}, {floats(1, nan), "", api.ErrForm}, {floats(1025, nan), "", api.ErrRange},
	} {
		s, e := carrier.Print(x.l)
		same(t, "Print", s, x.want)
		same(t, "Print: error", e, x.e)
	}
}

func TestParse(t *testing.T) {
	for s, want := range map[string][]float32{
		"series 2\nsample 16\nsample -8\n":                   floats(1, -0.5),
		"series 0\n":                                         nil,
		"series 3\nsample 0\nsample 16384\nsample -16384\n":  floats(0, 1024, -1024),
		"series 4096\n" + strings.Repeat("sample 5\n", 4096): repeated(float32(0.3125), 4096),
		"series 10\n" + strings.Repeat("sample -10\n", 10):   repeated(float32(-0.625), 10),
		"series 2\nsample 1\nsample 12345\n":                 samplesOf(1, 12345),
	} {
		l, at, e := carrier.Parse(s)
		sameResult(t, "Parse", l, e, want, api.OK)
		same(t, "Parse: index", at, 0)
	}
}

func TestParseWithWrongLines(t *testing.T) {
	for s, at := range map[string]int{
		"": 0, "\n": 0, "\n\n": 0, " ": 0, "x": 0, "series 1": 0, "series\n": 0, "series \n": 0, "series  1\n": 0, " series 1\n": 0, "series 1 \n": 0, "series 1 1\n": 0, "series\t1\n": 0, "Series 0\n": 0, "serie 0\n": 0, "series 0\r\n": 0,
		"sample 1\n": 0, "sample 1\nseries 1\n": 0, "samples 1\n": 0, "0\n": 0, " 0\n": 0, "series1\n": 0, "series\n1\n": 0,
		"series 00\n": 0, "series 01\n": 0, "series -0\n": 0, "series +1\n": 0, "series --1\n": 0, "series -\n": 0, "series 1_0\n": 0, "series 0x1\n": 0, "series 1.0\n": 0, "series 1e1\n": 0, "series a\n": 0, "series \u0661\n": 0,
		"series 1000000000\n": 0, "series -1000000000\n": 0, "series 99999999999999999999\n": 0, "series -01\n": 0, "series 1-\n": 0,
		"series 1\nsample 5": 1, "series 1\nsample 05\n": 1, "series 1\nsample\n": 1, "series 1\nseries 1\n": 1, "series 0\n\n": 1, "series 0\n ": 1, "series 0\nseries 0\n": 1, "series 1\nsample -0\n": 1, "series 1\nsample 1000000000\n": 1, "series 1\nsample  5\n": 1, "series 1\nsample 5 \n": 1,
		"series 1\nsample 5\nx": 2, "series 1\nsample 5\n\n": 2, "series 9\nsample 99999\nsample 5\nsample +5\n": 3, "series 1\nsample 5\nsample 5": 2,
		"series 5000\n" + strings.Repeat("sample 0\n", 5000) + "sample": 5001,
	} {
		l, got, e := carrier.Parse(s)
		sameResult(t, "Parse "+s[:min(len(s), 40)], l, e, nil, api.ErrSyntax)
		same(t, "Parse "+s[:min(len(s), 40)]+": index", got, at)
	}
}

func TestParseWithOtherErrors(t *testing.T) {
	many := "series 4097\n" + strings.Repeat("sample 0\n", 4097)
	for i, x := range []struct {
		s  string
		at int
		e  api.Errno
	}{
		{"series 1\n", 1, api.ErrShape}, {"series -1\n", 1, api.ErrShape}, {"series 999999999\n", 1, api.ErrShape}, {"series -999999999\n", 1, api.ErrShape}, {"series 2\nsample 5\n", 2, api.ErrShape}, {"series 0\nsample 5\n", 2, api.ErrShape}, {"series 2\nsample 99999\n", 2, api.ErrShape}, {"series 1\n" + strings.Repeat("sample 0\n", 4097), 4098, api.ErrShape},
		{"series 1\nsample 16385\n", 2, api.ErrLarge}, {"series 1\nsample -16385\n", 2, api.ErrLarge}, {"series 1\nsample 999999999\n", 2, api.ErrLarge}, {"series 1\nsample -999999999\n", 2, api.ErrLarge}, {"series 3\nsample 0\nsample 0\nsample 16385\n", 4, api.ErrLarge},
		{many, 4098, api.ErrMany}, {"series 4098\n" + many[12:] + "sample 16385\n", 4099, api.ErrLarge},
		{strings.Repeat("x", 1000000), 0, api.ErrSyntax}, {strings.Repeat("x", 1000001), 0, api.ErrLong}, {"series 1\n" + strings.Repeat("x", 1000000), 0, api.ErrLong}, {"series 0\n" + strings.Repeat("\n", 1000000-9), 1, api.ErrSyntax},
	} {
		l, at, e := carrier.Parse(x.s)
		sameResult(t, "Parse "+strconv.Itoa(i), l, e, nil, x.e)
		same(t, "Parse "+strconv.Itoa(i)+": index", at, x.at)
	}
}
