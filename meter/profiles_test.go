package meter_test

import (
	"math"
	"math/rand"
	"testing"

	"kilovar/api"
	"kilovar/meter"
)

// P6.2

func TestCheckEntry(t *testing.T) {
	for _, x := range entries(meter.Entry{}, entry(999999999, 100000000, 999999, 999999, 7), entry(258, 3, 5, 65536, 1)) {
		same(t, "CheckEntry", meter.CheckEntry(x), api.OK)
	}
	for _, x := range entryErrors {
		same(t, "CheckEntry of a wrong entry", meter.CheckEntry(x), api.ErrRange)
	}
}

func TestCheckProfile(t *testing.T) {
	for _, p := range []meter.Profile{
		profile(1), profile(64), profile(1, meter.Entry{}), profile(1, entry(999999999, 100000000, 999999, 999999, 7)), profile(2, successive(7, 2)...), profile(64, successive(0, 64)...), profile(64, successive(999999, 63)...),
		profile(2, entry(999999998, 99999999, 0, 0, 0), entry(999999999, 100000000, 0, 0, 0)), profile(3, entry(0, 0, 0, 0, 0), entry(1, 1, 0, 0, 0), entry(2, 100000000, 0, 0, 0)),
	} {
		same(t, "CheckProfile", meter.CheckProfile(p), api.OK)
	}
	for _, x := range profileErrors() {
		same(t, "CheckProfile of a wrong profile", meter.CheckProfile(x.p), x.e)
	}
	for _, wrong := range entryErrors {
		same(t, "CheckProfile of a wrong entry", meter.CheckProfile(profile(1, wrong)), api.ErrRange)
	}
}

func TestStored(t *testing.T) {
	seven, eight, nine := entry(7, 10, 1, 2, 3), entry(8, 20, 4, 5, 6), entry(9, 30, 7, 8, 0)
	for _, x := range []struct {
		p    meter.Profile
		e    meter.Entry
		want meter.Profile
	}{
		{profile(2, seven, eight), nine, profile(2, eight, nine)}, {profile(3, seven, eight), nine, profile(3, seven, eight, nine)}, {profile(64, seven, eight), nine, profile(64, seven, eight, nine)}, {profile(1, eight), nine, profile(1, nine)},
		{profile(1), nine, profile(1, nine)}, {profile(64), meter.Entry{}, profile(64, meter.Entry{})}, {profile(2, seven), entry(8, 11, 0, 0, 0), profile(2, seven, entry(8, 11, 0, 0, 0))},
		{profile(2, entry(999999998, 0, 0, 0, 0)), entry(999999999, 100000000, 0, 0, 0), profile(2, entry(999999998, 0, 0, 0, 0), entry(999999999, 100000000, 0, 0, 0))},
		{profile(64, successive(5, 64)...), entry(69, 500, 0, 0, 0), profile(64, append(successive(5, 64)[1:], entry(69, 500, 0, 0, 0))...)}, {profile(64, successive(5, 63)...), successive(5, 64)[63], profile(64, successive(5, 64)...)},
	} {
		p, e := meter.Stored(x.p, x.e)
		same(t, "Stored", all(p, e), all(x.want, api.OK))
	}
}

func TestStoredOfWrongArguments(t *testing.T) {
	check := func(p meter.Profile, x meter.Entry, want api.Errno) {
		t.Helper()
		got, e := meter.Stored(p, x)
		same(t, "Stored", all(got, e), all(meter.Profile{}, want))
	}
	for _, x := range profileErrors() {
		check(x.p, entry(8, 20, 0, 0, 0), x.e)
		check(x.p, entry(-1, -1, -1, -1, -1), x.e)
	}
	seven := entry(7, 10, 0, 0, 0)
	for _, wrong := range entryErrors {
		check(profile(2), wrong, api.ErrRange)
		check(profile(2, seven), wrong, api.ErrRange)
	}
	for _, x := range entries(entry(7, 20, 0, 0, 0), entry(9, 20, 0, 0, 0), entry(6, 20, 0, 0, 0), entry(0, 20, 0, 0, 0), entry(8, 10, 0, 0, 0), entry(8, 9, 0, 0, 0), entry(8, 0, 0, 0, 0), seven) {
		check(profile(1, seven), x, api.ErrOrder)
		check(profile(64, seven), x, api.ErrOrder)
	}
	check(profile(2, entry(999999999, 10, 0, 0, 0)), entry(1000000000, 20, 0, 0, 0), api.ErrRange)
	check(profile(2, entry(999999999, 10, 0, 0, 0)), entry(0, 20, 0, 0, 0), api.ErrOrder)
	check(profile(2, entry(5, 10, 0, 0, 0), seven), entry(8, 20, 0, 0, 0), api.ErrOrder)
}

func TestRead(t *testing.T) {
	l := successive(8, 3)
	for _, x := range []struct {
		from, to int
		want     []meter.Entry
	}{
		{8, 11, l}, {8, 10, l[:2]}, {9, 11, l[1:]}, {8, 9, l[:1]}, {9, 10, l[1:2]}, {10, 11, l[2:]},
		{8, 8, nil}, {10, 10, nil}, {11, 11, nil}, {3, 3, nil}, {0, 0, nil}, {12, 12, nil}, {math.MaxInt, math.MaxInt, nil}, // an empty span, wherever it is
	} {
		for _, room := range ints(3, 64) {
			got, e := meter.Read(profile(room, l...), span(x.from, x.to))
			same(t, "Read", all(x.from, x.to, got, e), all(x.from, x.to, x.want, api.OK))
		}
	}
	got, e := meter.Read(profile(1, entry(999999999, 0, 0, 0, 0)), span(999999999, 1000000000))
	same(t, "Read of the last number", all(got, e), all(entries(entry(999999999, 0, 0, 0, 0)), api.OK))
	for _, n := range ints(0, 7, math.MaxInt) {
		got, e := meter.Read(profile(1), span(n, n))
		same(t, "Read of nothing", all(got, e), all(entries(), api.OK))
	}
}

func TestReadOfWrongArguments(t *testing.T) {
	check := func(p meter.Profile, from, to int, want api.Errno) {
		t.Helper()
		l, e := meter.Read(p, span(from, to))
		same(t, "Read", all(from, to, l, e), all(from, to, entries(), want))
	}
	for _, x := range profileErrors() {
		check(x.p, 7, 8, x.e)
		check(x.p, 0, 0, x.e)
		check(x.p, 1, 0, x.e)
	}
	for _, p := range []meter.Profile{profile(1), profile(9, successive(8, 3)...)} {
		for _, s := range []api.Span{span(-1, 9), span(-1, -1), span(-1, -2), span(9, 8), span(1, 0), span(math.MinInt, math.MaxInt), span(math.MaxInt, math.MinInt), span(math.MaxInt, 0), span(0, math.MinInt)} {
			check(p, s.From, s.To, api.ErrSpan)
		}
	}
	for _, s := range []api.Span{span(7, 8), span(7, 9), span(7, 12), span(0, 1), span(0, math.MaxInt), span(3, 7)} {
		check(profile(9, successive(8, 3)...), s.From, s.To, api.ErrOld)
	}
	for _, s := range []api.Span{span(8, 12), span(10, 12), span(11, 12), span(20, 30), span(8, math.MaxInt), span(math.MaxInt-1, math.MaxInt)} {
		check(profile(9, successive(8, 3)...), s.From, s.To, api.ErrNone)
	}
	for _, s := range []api.Span{span(0, 1), span(7, 8), span(0, math.MaxInt)} {
		check(profile(1), s.From, s.To, api.ErrNone)
	}
}

// imports returns a profile with some imports, from the number 5 on.
func imports(l ...int) meter.Profile {
	p := profile(64)
	for i, n := range l {
		p.Entries = append(p.Entries, entry(5+i, 1+i, n, 999999-n, 0))
	}
	return p
}

func TestGreatest(t *testing.T) {
	for _, x := range []struct {
		p           meter.Profile
		wide        int
		most, first int
	}{
		{imports(4, 9, 2, 9), 1, 9, 6}, {imports(4, 9, 2, 9), 2, 13, 5}, {imports(4, 9, 2, 9), 3, 20, 6}, {imports(4, 9, 2, 9), 4, 24, 5},
		{imports(0), 1, 0, 5}, {imports(0, 0, 0), 1, 0, 5}, {imports(0, 0, 0), 2, 0, 5}, {imports(0, 0, 1), 2, 1, 6}, {imports(1, 2, 3), 1, 3, 7}, {imports(3, 2, 1), 1, 3, 5}, {imports(5, 1, 5, 1), 2, 6, 5}, {imports(1, 5, 1, 6), 2, 7, 7},
		{imports(repeated(999999, 16)...), 16, 15999984, 5}, {imports(append(repeated(0, 16), repeated(1, 16)...)...), 16, 16, 21}, {imports(repeated(999999, 64)...), 16, 15999984, 5},
		{profile(1, entry(999999999, 100000000, 999999, 0, 0)), 1, 999999, 999999999},
	} {
		most, first, e := meter.Greatest(x.p, x.wide)
		same(t, "Greatest", all(most, first, e), all(x.most, x.first, api.OK))
	}
}

func TestGreatestByDefinition(t *testing.T) {
	r := rand.New(rand.NewSource(3))
	for range 500 {
		n := 1 + r.Intn(20)
		p := imports(repeated(0, n)...)
		for i := range n {
			p.Entries[i].Import = r.Intn(5)
		}
		wide := 1 + r.Intn(min(n, 16))
		want, at := -1, 0
		for first := range n - wide + 1 {
			sum := 0
			for i := range wide {
				sum += p.Entries[first+i].Import
			}
			if sum > want {
				want, at = sum, 5+first
			}
		}
		most, first, e := meter.Greatest(p, wide)
		same(t, "Greatest", all(most, first, e), all(want, at, api.OK))
	}
}

func TestGreatestOfWrongArguments(t *testing.T) {
	check := func(p meter.Profile, wide int, want api.Errno) {
		t.Helper()
		most, first, e := meter.Greatest(p, wide)
		same(t, "Greatest", all(most, first, e), all(0, 0, want))
	}
	for _, x := range profileErrors() {
		check(x.p, 1, x.e)
		check(x.p, 0, x.e)
	}
	for _, wide := range append(far(), 0, -1, 17) {
		check(imports(1, 2, 3), wide, api.ErrRange)
		check(profile(1), wide, api.ErrRange)
		check(profile(64, successive(0, 64)...), wide, api.ErrRange)
	}
	check(imports(4, 9, 2, 9), 5, api.ErrShort)
	check(imports(4, 9, 2, 9), 16, api.ErrShort)
	check(imports(), 1, api.ErrShort)
	check(imports(repeated(1, 15)...), 16, api.ErrShort)
}
