package meter_test

import (
	"math"
	"math/rand"
	"slices"
	"testing"

	"kilovar/api"
	"kilovar/meter"
)

// P6.1

func TestPower(t *testing.T) {
	full := four(16384, 16384, 16384, 16384)
	for _, x := range []struct {
		v, i [4]float32
		want complex128
	}{
		{four(16, 0, -16, 0), four(32, 16, 0, 0), 512 + 256i}, {four(16, 0, -16, 0), four(0, 16, 32, 0), -512 + 256i},
		{four(0, 0, 0, 0), four(0, 0, 0, 0), 0}, {four(1, 0, 0, 0), four(1, 0, 0, 0), 1}, {four(1, 0, 0, 0), four(-1, 0, 0, 0), -1}, {four(1, 0, 0, 0), four(0, 1, 0, 0), 1i}, {four(1, 0, 0, 0), four(0, 0, 1, 0), 0}, {four(1, 0, 0, 0), four(0, 0, 0, 1), 0},
		{four(0, 0, 0, 2), four(3, 0, 0, 0), 6i}, {four(0, 2, 0, 0), four(0, 0, -3, 0), -6i}, {four(0, 0, 2, 0), four(0, 0, 0, 3), 6i}, {four(1, 10, 100, 1000), four(5, 6, 7, 8), 8765 + 5876i},
		{full, full, 1<<30 + 1<<30*1i}, {full, four(-16384, -16384, -16384, -16384), -1<<30 - 1<<30*1i},
	} {
		p, e := meter.Power(x.v, x.i)
		same(t, "Power", all(p, e), all(x.want, api.OK))
	}
	minus := float32(math.Copysign(0, -1))
	p, e := meter.Power([4]float32{minus, minus, 1, minus}, [4]float32{-1, minus, minus, minus})
	same(t, "Power of -0", all(p, e), all(complex128(0), api.OK))
}

func TestPowerByDefinition(t *testing.T) {
	r := rand.New(rand.NewSource(1))
	for range 2000 {
		v, i := [4]float32(randomSamples(r, 4)), [4]float32(randomSamples(r, 4))
		active, reactive := 0, 0
		for n, before := range ints(3, 0, 1, 2) {
			active += int(16*v[n]) * int(16*i[n])
			reactive += int(16*v[before]) * int(16*i[n])
		}
		p, e := meter.Power(v, i)
		same(t, "Power", all(p, e), all(complex(float64(active), float64(reactive)), api.OK))
	}
}

func TestPowerOfWrongSamples(t *testing.T) {
	for _, x := range sampleErrors {
		for at := range 4 {
			wrong, second := four(0, 0, 0, 0), four(0, 0, 0, 0)
			wrong[at], second[at] = x.x, x.x
			for behind := at + 1; behind < 4; behind++ {
				wrong[behind] = map[api.Errno]float32{api.ErrForm: 0.01, api.ErrRange: nan}[x.e]
			}
			p, e := meter.Power(wrong, four(1, 2, 3, 4))
			same(t, "Power of a wrong voltage", all(p, e), all(complex128(0), x.e))
			p, e = meter.Power(four(1, 2, 3, 4), wrong)
			same(t, "Power of a wrong current", all(p, e), all(complex128(0), x.e))
			p, e = meter.Power(second, [4]float32{nan, 0.01, nan, 0.01})
			same(t, "Power of a wrong voltage before a wrong current", all(p, e), all(complex128(0), x.e))
		}
	}
}

func TestQuadrant(t *testing.T) {
	minus := math.Copysign(0, -1)
	for want, l := range [][]complex128{
		{0, complex(minus, minus), complex(minus, 0), complex(0, minus)},
		{512 + 256i, 1, 1i, 1 + 1i, 1 << 31, 1 << 31 * 1i, complex(1<<31, 1<<31), complex(minus, 1), complex(1, minus)},
		{-512 + 256i, -1, -1 + 1i, -1 << 31, complex(-1<<31, 1<<31), complex(-1, minus)},
		{-1 - 1i, -1<<31 - 1i, -1 - 1<<31*1i, complex(-1<<31, -1<<31)},
		{-1i, 1 - 1i, -1 << 31 * 1i, complex(1<<31, -1<<31), complex(minus, -1)},
	} {
		for _, p := range l {
			n, e := meter.Quadrant(p)
			same(t, "Quadrant", all(p, n, e), all(p, want, api.OK))
		}
	}
	for _, x := range []struct {
		re, im float64
		e      api.Errno
	}{
		{math.NaN(), 0, api.ErrForm}, {0, math.NaN(), api.ErrForm}, {math.Inf(1), 0, api.ErrForm}, {math.Inf(-1), 0, api.ErrForm}, {0, math.Inf(1), api.ErrForm}, {0, math.Inf(-1), api.ErrForm},
		{0.5, math.NaN(), api.ErrForm}, {5e9, math.Inf(-1), api.ErrForm}, {math.Inf(1), 0.5, api.ErrForm},
		{0.5, 0, api.ErrRange}, {0, 0.5, api.ErrRange}, {-0.5, 1, api.ErrRange}, {1, -0.5, api.ErrRange}, {1<<31 + 1, 0, api.ErrRange}, {0, 1<<31 + 1, api.ErrRange}, {-1<<31 - 1, 0, api.ErrRange}, {0, -1<<31 - 1, api.ErrRange}, {1<<31 - 0.5, 0, api.ErrRange}, {1e300, 0, api.ErrRange}, {0, -1e300, api.ErrRange}, {5e-324, 0, api.ErrRange},
	} {
		n, e := meter.Quadrant(complex(x.re, x.im))
		same(t, "Quadrant of a wrong power", all(x.re, x.im, n, e), all(x.re, x.im, 0, x.e))
	}
}

func TestCheckMeter(t *testing.T) {
	for _, m := range []meter.Meter{{}, fullMeter(), {register(0, 999999)}, {5: register(999999, 0)}} {
		same(t, "CheckMeter", meter.CheckMeter(m), api.OK)
	}
	for _, wrong := range registerErrors {
		for i := range 6 {
			m := fullMeter()
			m[i] = wrong
			same(t, "CheckMeter of a wrong register", meter.CheckMeter(m), api.ErrRange)
		}
	}
}

// examples are the voltage and the currents of a cycle in each quadrant, and at its borders.
var examples = []struct {
	v, i [4]float32
	want meter.Meter // of a meter of zeros
}{
	{four(16, 0, -16, 0), four(32, 16, 0, 0), meter.Meter{0: register(0, 512), 2: register(0, 256)}},
	{four(16, 0, -16, 0), four(0, 16, 32, 0), meter.Meter{1: register(0, 512), 3: register(0, 256)}},
	{four(16, 0, -16, 0), four(0, -16, 32, 0), meter.Meter{1: register(0, 512), 4: register(0, 256)}},
	{four(16, 0, -16, 0), four(32, -16, 0, 0), meter.Meter{0: register(0, 512), 5: register(0, 256)}},
	{four(16, 0, -16, 0), four(32, 0, 0, 0), meter.Meter{0: register(0, 512)}}, {four(16, 0, -16, 0), four(-32, 0, 0, 0), meter.Meter{1: register(0, 512)}},
	{four(16, 0, -16, 0), four(0, 16, 0, 0), meter.Meter{2: register(0, 256)}}, {four(16, 0, -16, 0), four(0, -16, 0, 0), meter.Meter{5: register(0, 256)}},
	{four(16, 0, -16, 0), four(0, 0, 0, 0), meter.Meter{}}, {four(0, 0, 0, 0), four(16, 16, 16, 16), meter.Meter{}}, {four(1, 0, 0, 0), four(1, 0, 0, 0), meter.Meter{0: register(0, 1)}}, {four(1, 0, 0, 0), four(0, 1, 0, 0), meter.Meter{2: register(0, 1)}},
	{four(16384, 16384, 16384, 16384), four(16384, 16384, 16384, 16384), meter.Meter{0: register(1073, 741824), 2: register(1073, 741824)}},
	{four(16384, 16384, 16384, 16384), four(-16384, -16384, -16384, -16384), meter.Meter{1: register(1073, 741824), 4: register(1073, 741824)}},
}

func TestCounted(t *testing.T) {
	for _, x := range examples {
		m, e := meter.Counted(meter.Meter{}, x.v[:], x.i[:])
		same(t, "Counted", all(x.v, x.i, m, e), all(x.v, x.i, x.want, api.OK))
	}
	m, e := meter.Counted(meter.Meter{}, list(examples[0].v, examples[1].v, examples[1].v), list(examples[0].i, examples[1].i, examples[1].i))
	same(t, "Counted of three cycles", all(m, e), all(meter.Meter{0: register(0, 512), 1: register(0, 1024), 2: register(0, 256), 3: register(0, 512)}, api.OK))
	for _, m := range []meter.Meter{{}, fullMeter()} {
		got, e := meter.Counted(m, nil, []float32{})
		same(t, "Counted of nothing", all(got, e), all(m, api.OK))
	}
	full := meter.Meter{register(999999, 999900)}
	m, e = meter.Counted(full, list(four(10, 0, 0, 0)), list(four(20, 0, 0, 0)))
	same(t, "Counted around", all(m, e), all(meter.Meter{register(0, 100)}, api.OK))
	m, e = meter.Counted(full, list(four(10, 0, 0, 0)), list(four(10, 0, 0, 0)))
	same(t, "Counted just around", all(m, e), all(meter.Meter{}, api.OK))
	m, e = meter.Counted(full, list(four(11, 0, 0, 0)), list(four(9, 0, 0, 0)))
	same(t, "Counted not quite around", all(m, e), all(meter.Meter{register(999999, 999999)}, api.OK))
}

func TestCountedOfManyCycles(t *testing.T) {
	v, i := list(repeated(four(16, 0, -16, 0), 1000)...), list(repeated(four(32, 16, 0, 0), 1000)...)
	var m meter.Meter
	e := api.OK
	for range 4 {
		m, e = meter.Counted(m, v, i)
		same(t, "Counted: error", e, api.OK)
	}
	same(t, "Counted", m, meter.Meter{0: register(2, 48000), 2: register(1, 24000)})
	most := repeated(float32(1024), 4096)
	m, e = meter.Counted(fullMeter(), most, most)
	same(t, "Counted of the most", all(m, e), all(meter.Meter{0: register(99511, 627775), 1: register(999999, 999999), 2: register(99511, 627775), 3: register(999999, 999999), 4: register(999999, 999999), 5: register(999999, 999999)}, api.OK))
}

// TestCountedByDefinition counts the energies of all registers in a sum of their own.
func TestCountedByDefinition(t *testing.T) {
	r := rand.New(rand.NewSource(2))
	for range 500 {
		before := randomMeter(r)
		n := r.Intn(20)
		v, i := randomSamples(r, 4*n), randomSamples(r, 4*n)
		var sums [6]int
		for k := range sums {
			sums[k] = 1000000*before[k].Units + before[k].Rest
		}
		for k := range n {
			p := value(meter.Power([4]float32(v[4*k:]), [4]float32(i[4*k:])))
			sums[0] += max(0, int(real(p)))
			sums[1] += max(0, -int(real(p)))
			if q := value(meter.Quadrant(p)); q > 0 {
				sums[1+q] += int(math.Abs(imag(p)))
			}
		}
		var want meter.Meter
		for k, sum := range sums {
			want[k] = register(sum/1000000%1000000, sum%1000000)
		}
		m, e := meter.Counted(before, v, i)
		same(t, "Counted", all(m, e), all(want, api.OK))
	}
}

func TestCountedOfWrongArguments(t *testing.T) {
	check := func(what string, m meter.Meter, v, i []float32, want api.Errno) {
		t.Helper()
		got, e := meter.Counted(m, v, i)
		same(t, what, all(got, e), all(meter.Meter{}, want))
	}
	long, wrong := repeated(float32(0), 4097), []float32{0, 0, 0, 0, 0, nan, 0, 0}
	for _, x := range registerErrors {
		check("a wrong meter", meter.Meter{3: x}, nil, nil, api.ErrRange)
		check("a wrong meter before wrong samples", meter.Meter{x}, long, wrong, api.ErrRange)
	}
	check("many voltages", meter.Meter{}, long, nil, api.ErrMany)
	check("many voltages before a wrong one", meter.Meter{}, repeated(nan, 4097), wrong, api.ErrMany)
	check("many currents", meter.Meter{}, nil, long, api.ErrMany)
	check("a wrong voltage before many currents", meter.Meter{}, wrong, long, api.ErrForm)
	check("a voltage too many of both", meter.Meter{}, long, long, api.ErrMany)
	for _, x := range sampleErrors {
		check("a wrong voltage", meter.Meter{}, []float32{0, 0, 0, x.x}, []float32{nan, 0.01, nan}, x.e)
		check("a wrong current", meter.Meter{}, []float32{0, 0, 0}, []float32{0, 0, x.x, nan, 0.01}, x.e)
	}
	check("a voltage too many", meter.Meter{}, make([]float32, 8), make([]float32, 4), api.ErrShape)
	check("a current too many", meter.Meter{}, make([]float32, 4), make([]float32, 5), api.ErrShape)
	check("no current", meter.Meter{}, make([]float32, 3), nil, api.ErrShape)
	for _, n := range ints(1, 2, 3, 5, 4095) {
		check("half a cycle", fullMeter(), make([]float32, n), make([]float32, n), api.ErrShort)
	}
}

func TestDifference(t *testing.T) {
	for _, x := range []struct {
		before, after meter.Register
		want          int
	}{
		{register(0, 0), register(0, 0), 0}, {register(7, 5), register(7, 5), 0}, {register(999999, 999999), register(999999, 999999), 0},
		{register(999999, 999900), register(0, 100), 200}, {register(0, 0), register(0, 1), 1}, {register(0, 0), register(1, 0), 1000000}, {register(0, 999999), register(1, 0), 1},
		{register(0, 1), register(0, 0), 999999999999}, {register(0, 0), register(999999, 999999), 999999999999}, {register(999999, 999999), register(0, 0), 1}, {register(5, 10), register(4, 20), 999999000010}, {register(5, 10), register(7, 9), 1999999},
	} {
		n, e := meter.Difference(x.before, x.after)
		same(t, "Difference", all(x.before, x.after, n, e), all(x.before, x.after, x.want, api.OK))
	}
	for _, wrong := range registerErrors {
		for _, other := range append(slices.Clone(registerErrors), register(0, 0)) {
			n, e := meter.Difference(wrong, other)
			same(t, "Difference of a wrong register", all(n, e), all(0, api.ErrRange))
			n, e = meter.Difference(other, wrong)
			same(t, "Difference to a wrong register", all(n, e), all(0, api.ErrRange))
		}
	}
}

func TestImplausible(t *testing.T) {
	after := meter.Meter{register(2, 48000), register(0, 1), register(1, 24000), register(0, 0), register(999999, 999999), register(2, 48001)}
	for _, x := range []struct {
		before, after meter.Meter
		ticks, most   int
		want          []int
	}{
		{meter.Meter{}, after, 100, 20480, ints(4, 5)}, {meter.Meter{}, after, 100, 20479, ints(0, 4, 5)}, {meter.Meter{}, after, 20480, 100, ints(4, 5)}, {meter.Meter{}, after, 1, 1, ints(0, 2, 4, 5)}, {meter.Meter{}, after, 1, 2048000, ints(4, 5)}, {meter.Meter{}, after, 1, 2048001, ints(4)},
		{meter.Meter{}, after, 100000000, 100000000, nil}, {meter.Meter{}, after, 10000, 100000000, nil}, {meter.Meter{}, after, 9999, 100000000, ints(4)}, {meter.Meter{}, after, 100000000, 9999, ints(4)},
		{after, after, 1, 1, nil}, {fullMeter(), fullMeter(), 1, 1, nil}, {fullMeter(), meter.Meter{}, 1, 1, nil}, {fullMeter(), meter.Meter{0: register(0, 1)}, 1, 1, ints(0)}, {meter.Meter{}, fullMeter(), 999999, 1000000, ints(0, 1, 2, 3, 4, 5)}, {meter.Meter{}, fullMeter(), 1000000, 1000000, nil},
	} {
		l, e := meter.Implausible(x.before, x.after, x.ticks, x.most)
		same(t, "Implausible", all(l, e), all(x.want, api.OK))
	}
}

func TestImplausibleOfWrongArguments(t *testing.T) {
	for _, wrong := range registerErrors {
		l, e := meter.Implausible(meter.Meter{5: wrong}, fullMeter(), 1, 1)
		same(t, "before", all(l, e), all(ints(), api.ErrRange))
		l, e = meter.Implausible(meter.Meter{}, meter.Meter{0: wrong}, 1, 1)
		same(t, "after", all(l, e), all(ints(), api.ErrRange))
	}
	for _, n := range append(far(), 0, -1, 100000001) {
		l, e := meter.Implausible(meter.Meter{}, fullMeter(), n, 1)
		same(t, "ticks", all(l, e), all(ints(), api.ErrRange))
		l, e = meter.Implausible(meter.Meter{}, fullMeter(), 1, n)
		same(t, "the greatest power", all(l, e), all(ints(), api.ErrRange))
	}
}
