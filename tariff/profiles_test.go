package tariff_test

import (
	"math"
	"math/rand"
	"testing"

	"kilovar/api"
	"kilovar/tariff"
)

// P7.2

// profileErrors are profiles that are none, and their errors.
func profileErrors() []struct {
	p tariff.Profile
	e api.Errno
} {
	return []struct {
		p tariff.Profile
		e api.Errno
	}{
		{tariff.Profile{}, api.ErrRange}, {profile(0, 600), api.ErrRange}, {profile(0, -900), api.ErrRange}, {profile(0, 1), api.ErrRange}, {profile(0, 7200), api.ErrRange}, {profile(0, 450), api.ErrRange}, {profile(0, 2700), api.ErrRange}, {profile(-1, 0, repeated(-2, 97)...), api.ErrRange},
		{profile(0, math.MinInt, 1), api.ErrRange}, {profile(0, math.MaxInt, 1), api.ErrRange},
		{profile(901, 900), api.ErrRange}, {profile(899, 900), api.ErrRange}, {profile(900, 1800), api.ErrRange}, {profile(1800, 3600), api.ErrRange}, {profile(-900, 900), api.ErrRange}, {profile(-1, 900), api.ErrRange}, {profile(100000800, 900), api.ErrRange}, {profile(100000001, 900), api.ErrRange}, {profile(math.MinInt, 900), api.ErrRange}, {profile(math.MaxInt, 900, 1), api.ErrRange}, {profile(901, 900, repeated(-2, 97)...), api.ErrRange},
		{profile(900, 900, repeated(0, 97)...), api.ErrMany}, {profile(900, 900, repeated(-2, 97)...), api.ErrMany}, {profile(99999900, 900, repeated(0, 97)...), api.ErrMany}, {profile(0, 900, repeated(0, 1000000)...), api.ErrMany},
		{profile(900, 900, -2), api.ErrRange}, {profile(900, 900, 100001), api.ErrRange}, {profile(900, 900, 1, -1, 100001), api.ErrRange}, {profile(900, 900, math.MinInt), api.ErrRange}, {profile(900, 900, math.MaxInt), api.ErrRange}, {profile(99997200, 3600, 100001), api.ErrRange},
		{profile(99997200, 3600, 1), api.ErrLarge}, {profile(99999900, 900, -1), api.ErrLarge}, {profile(99997200, 1800, 1, 1), api.ErrLarge}, {profile(99993600, 3600, 1, 1), api.ErrLarge},
	}
}

func TestCheckProfile(t *testing.T) {
	for _, p := range []tariff.Profile{
		profile(0, 900), profile(0, 1800), profile(0, 3600), series(4, -1, 3), profile(900, 900, 0, 100000, -1), profile(1800, 1800, 7), profile(0, 900, repeated(100000, 96)...), profile(3600, 3600, repeated(-1, 96)...),
		profile(99999900, 900), profile(99997200, 3600), profile(99999000, 900, 1), profile(99993600, 3600, 1), profile(99997200, 1800, 1), profile(99651600, 3600, repeated(1, 96)...),
	} {
		same(t, "CheckProfile", all(p, tariff.CheckProfile(p)), all(p, api.OK))
	}
	for i, x := range profileErrors() {
		same(t, "CheckProfile", all(i, tariff.CheckProfile(x.p)), all(i, x.e))
	}
}

// TestWrongProfiles gives wrong profiles to all functions that take one.
func TestWrongProfiles(t *testing.T) {
	for i, x := range profileErrors() {
		check := func(what string, results ...any) {
			t.Helper()
			same(t, what+" of a wrong profile", append(results, i), append(zeros(results[:len(results)-1]...), x.e, i))
		}
		n, m, e := tariff.Known(x.p)
		check("Known", n, m, e)
		p, q, e := tariff.Split(x.p, -1)
		check("Split", p, q, e)
		p, e = tariff.Joined(x.p, tariff.Profile{})
		check("Joined", p, e)
		p, e = tariff.Joined(series(4), x.p)
		check("Joined", p, e)
		p, e = tariff.Estimated(x.p, -1)
		check("Estimated", p, e)
		b, e := tariff.Billed(book(), x.p, -1)
		check("Billed", b, e)
		lines, e := tariff.Lines(book(), x.p, -1)
		check("Lines", lines, e)
		n, e = tariff.Corrected(book(), x.p, tariff.Profile{}, -1)
		check("Corrected", n, e)
		n, e = tariff.Corrected(book(), series(4), x.p, -1)
		check("Corrected", n, e)
		n, e = tariff.Compared(book(), book(), x.p, -1)
		check("Compared", n, e)
		mean, e := tariff.Mean(book(), x.p, -1)
		check("Mean", mean, e)
	}
}

func TestKnown(t *testing.T) {
	for _, x := range []struct {
		p            tariff.Profile
		sum, missing int
	}{{series(4, -1, 3), 7, 1}, {series(), 0, 0}, {series(0), 0, 0}, {series(-1), 0, 1}, {series(4, 5, 3), 12, 0}, {profile(0, 900, repeated(100000, 96)...), 9600000, 0}, {profile(0, 900, repeated(-1, 96)...), 0, 96}} {
		sum, missing, e := tariff.Known(x.p)
		same(t, "Known", all(x.p, sum, missing, e), all(x.p, x.sum, x.missing, api.OK))
	}
}

func TestSplit(t *testing.T) {
	for _, x := range []struct {
		p    tariff.Profile
		at   int
		a, b tariff.Profile
	}{
		{series(4, 5, 3), 1, series(4), profile(21600, 3600, 5, 3)}, {series(4, 5, 3), 0, series(), series(4, 5, 3)}, {series(4, 5, 3), 3, series(4, 5, 3), profile(28800, 3600)}, {series(), 0, series(), series()},
		{profile(900, 900, -1, 7), 1, profile(900, 900, -1), profile(1800, 900, 7)}, {profile(99993600, 3600, 1), 1, profile(99993600, 3600, 1), profile(99997200, 3600)},
	} {
		a, b, e := tariff.Split(x.p, x.at)
		same(t, "Split", all(x.p, x.at, a, b, e), all(x.p, x.at, x.a, x.b, api.OK))
	}
	for _, at := range append(far(), -1, 4) {
		a, b, e := tariff.Split(series(4, 5, 3), at)
		same(t, "Split at a wrong index", all(at, a, b, e), all(at, tariff.Profile{}, tariff.Profile{}, api.ErrRange))
	}
	a, b, e := tariff.Split(series(), 1)
	same(t, "Split of nothing", all(a, b, e), all(tariff.Profile{}, tariff.Profile{}, api.ErrRange))
}

func TestJoined(t *testing.T) {
	many := repeated(1, 48)
	for _, x := range []struct {
		p, q, want tariff.Profile
	}{
		{series(4), profile(21600, 3600, 5, 3), series(4, 5, 3)}, {series(), series(4, 5), series(4, 5)}, {series(4), profile(21600, 3600), series(4)}, {series(), series(), series()}, {profile(900, 900, -1), profile(1800, 900, 7, -1), profile(900, 900, -1, 7, -1)},
		{profile(0, 900, many...), profile(48*900, 900, many...), profile(0, 900, repeated(1, 96)...)}, {profile(99990000, 3600, 1), profile(99993600, 3600, 2), profile(99990000, 3600, 1, 2)},
	} {
		p, e := tariff.Joined(x.p, x.q)
		same(t, "Joined", all(x.p, x.q, p, e), all(x.p, x.q, x.want, api.OK))
	}
	for _, x := range []struct {
		p, q tariff.Profile
		e    api.Errno
	}{
		{series(4), profile(21600, 1800, 5), api.ErrShape}, {series(4), profile(21600, 900, 5), api.ErrShape}, {series(4), profile(0, 900), api.ErrShape}, {series(repeated(1, 96)...), profile(900, 900, repeated(1, 96)...), api.ErrShape},
		{profile(21600, 3600, 5, 3), series(4), api.ErrOrder}, {series(4), series(4), api.ErrOrder}, {series(4), profile(25200, 3600, 4), api.ErrOrder}, {series(4), profile(14400, 3600, 4), api.ErrOrder}, {series(), profile(21600, 3600), api.ErrOrder}, {series(repeated(1, 96)...), series(repeated(1, 96)...), api.ErrOrder},
		{profile(0, 900, many...), profile(48*900, 900, append(many, 1)...), api.ErrMany}, {profile(0, 900, repeated(1, 96)...), profile(86400, 900, 1), api.ErrMany}, {profile(0, 900, repeated(1, 96)...), profile(86400, 900), api.OK},
	} {
		p, e := tariff.Joined(x.p, x.q)
		if x.e != api.OK {
			same(t, "Joined of wrong ones", all(x.p, x.q, p, e), all(x.p, x.q, tariff.Profile{}, x.e))
			continue
		}
		same(t, "Joined", all(x.p, x.q, p, e), all(x.p, x.q, x.p, api.OK))
	}
}

func TestEstimated(t *testing.T) {
	for _, x := range []struct {
		l     []int
		total int
		want  []int
	}{
		{ints(4, -1, 3), 12, ints(4, 5, 3)}, {ints(-1, -1, 3), 10, ints(4, 3, 3)}, {ints(4, 5), 9, ints(4, 5)}, {ints(-1, -1), 0, ints(0, 0)}, {ints(4, -1, 3), 7, ints(4, 0, 3)}, {nil, 0, nil}, {ints(-1), 100000, ints(100000)}, {ints(-1, 0, -1), 200000, ints(100000, 0, 100000)}, {ints(-1, -1), 199999, ints(100000, 99999)},
		{ints(-1, 7, -1, -1, -1), 13, ints(2, 7, 2, 1, 1)}, {ints(-1, 7, -1, -1, -1), 14, ints(2, 7, 2, 2, 1)}, {ints(-1, 7, -1, -1, -1), 15, ints(2, 7, 2, 2, 2)}, {ints(-1, 7, -1, -1, -1), 10, ints(1, 7, 1, 1, 0)}, {repeated(-1, 96), 9600000, repeated(100000, 96)}, {repeated(-1, 96), 1, append(ints(1), repeated(0, 95)...)},
	} {
		p, e := tariff.Estimated(series(x.l...), x.total)
		same(t, "Estimated", all(x.l, x.total, p, e), all(x.l, x.total, series(x.want...), api.OK))
	}
	for _, x := range []struct {
		l     []int
		total int
		e     api.Errno
	}{
		{ints(-1, -1, 3), 2, api.ErrConflict}, {ints(4, 5), 10, api.ErrConflict}, {ints(4, 5), 8, api.ErrConflict}, {nil, 1, api.ErrConflict}, {ints(4, 5), 9600000, api.ErrConflict}, {ints(3), 0, api.ErrConflict},
		{ints(-1), 100001, api.ErrLarge}, {ints(-1, -1), 200001, api.ErrLarge}, {ints(-1, 7), 100008, api.ErrLarge}, {ints(-1, 7), 9600000, api.ErrLarge},
		{ints(-1), -1, api.ErrRange}, {ints(-1), 9600001, api.ErrRange}, {ints(4, 5), -1, api.ErrRange}, {ints(4, 5), 9600001, api.ErrRange}, {ints(-1), math.MinInt, api.ErrRange}, {ints(-1), math.MaxInt, api.ErrRange},
	} {
		p, e := tariff.Estimated(series(x.l...), x.total)
		same(t, "Estimated of wrong totals", all(x.l, x.total, p, e), all(x.l, x.total, tariff.Profile{}, x.e))
	}
}

// TestEstimatesByDefinition rounds down, and gives one unit more to the first ones.
func TestEstimatesByDefinition(t *testing.T) {
	r := rand.New(rand.NewSource(3))
	for range 1000 {
		p := randomProfile(r, r.Intn(50), 96)
		known, missing := 0, 0
		for i := range p.Energies {
			if r.Intn(3) == 0 {
				p.Energies[i] = -1
				missing++
				continue
			}
			known += p.Energies[i]
		}
		if missing == 0 {
			continue
		}
		rest := r.Intn(500)
		want := profile(p.Start, p.Step)
		more := rest % missing
		for _, energy := range p.Energies {
			if energy == -1 {
				energy = rest / missing
				if more > 0 {
					energy, more = energy+1, more-1
				}
			}
			want.Energies = append(want.Energies, energy)
		}
		got, e := tariff.Estimated(p, known+rest)
		same(t, "Estimated", all(got, e), all(want, api.OK))
	}
}
