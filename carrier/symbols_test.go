package carrier_test

import (
	"math"
	"math/rand"
	"slices"
	"testing"

	"kilovar/api"
	"kilovar/carrier"
)

// P1.2

// transformed computes the transform in the plainest way; the numbers are small enough to be exact.
func transformed(l [4]float32) [4]complex64 {
	var out [4]complex64
	for k := range 4 {
		factor := complex128(1)
		for range k {
			factor *= -1i
		}
		power := complex128(1)
		for n := range 4 {
			out[k] += complex64(complex(float64(l[n]), 0) * power)
			power *= factor
		}
	}
	return out
}

func TestFour(t *testing.T) {
	for _, x := range []struct {
		l [4]float32
		p [4]complex64
	}{
		{[4]float32{}, [4]complex64{}},
		{[4]float32{1, 2, 3, 4}, [4]complex64{10, -2 + 2i, -2, -2 - 2i}},
		{[4]float32{0, 1}, [4]complex64{1, -1i, -1, 1i}},
		{[4]float32{0, 0, minus0, 0.0625}, [4]complex64{0.0625, 0.0625i, -0.0625, -0.0625i}},
		{[4]float32{1024, 1024, 1024, 1024}, [4]complex64{4096}},
		{[4]float32{-1024, 1024, -1024, 1024}, [4]complex64{0, 0, -4096, 0}},
	} {
		p, e := carrier.Four(x.l)
		same(t, "Four", p, x.p)
		same(t, "Four: error", e, api.OK)
	}
}

func TestFourOfMany(t *testing.T) {
	r := rand.New(rand.NewSource(1))
	for range 500 {
		l := [4]float32(randomSamples(r, 4))
		p, e := carrier.Four(l)
		same(t, "Four", p, transformed(l))
		same(t, "Four: error", e, api.OK)
		back, e := carrier.Unfour(p)
		same(t, "Unfour", back, l)
		same(t, "Unfour: error", e, api.OK)
	}
}

func TestFourWithErrors(t *testing.T) {
	for at := range 4 {
		for _, x := range sampleErrors {
			var l [4]float32
			l[at] = x.x
			p, e := carrier.Four(l)
			same(t, "Four: error", e, x.e)
			if e != api.OK {
				same(t, "Four beside an error", p, [4]complex64{})
			}
		}
	}
	_, e := carrier.Four([4]float32{2000, nan})
	same(t, "Four: too large first", e, api.ErrRange)
	_, e = carrier.Four([4]float32{1, nan, 2000})
	same(t, "Four: no number first", e, api.ErrForm)
}

func TestUnfour(t *testing.T) {
	for _, x := range []struct {
		p [4]complex64
		l [4]float32
	}{
		{[4]complex64{}, [4]float32{}},
		{[4]complex64{0.25}, [4]float32{0.0625, 0.0625, 0.0625, 0.0625}},
		{[4]complex64{0, -0.25i, 0, 0.25i}, [4]float32{0, 0.125, 0, -0.125}},
		{[4]complex64{4096}, [4]float32{1024, 1024, 1024, 1024}},
		{[4]complex64{0, 0, -4096, 0}, [4]float32{-1024, 1024, -1024, 1024}},
		{[4]complex64{complex(minus0, minus0)}, [4]float32{}},
	} {
		l, e := carrier.Unfour(x.p)
		same(t, "Unfour", l, x.l)
		same(t, "Unfour: error", e, api.OK)
	}
}

func TestUnfourWithErrors(t *testing.T) {
	for _, x := range []struct {
		p [4]complex64
		e api.Errno
	}{
		// of one element
		{[4]complex64{complex(nan, 0)}, api.ErrForm}, {[4]complex64{complex(0, nan)}, api.ErrForm},
		{[4]complex64{complex(infinite, 0)}, api.ErrForm}, {[4]complex64{complex(0, -infinite)}, api.ErrForm},
		{[4]complex64{4096.0625}, api.ErrRange}, {[4]complex64{-4096.0625}, api.ErrRange}, {[4]complex64{4096.0625i}, api.ErrRange}, {[4]complex64{-4096.0625i}, api.ErrRange}, {[4]complex64{0.03125}, api.ErrRange}, {[4]complex64{0.03125i}, api.ErrRange},
		{[4]complex64{complex(math.MaxFloat32, 0)}, api.ErrRange},
		{[4]complex64{complex(5000, nan)}, api.ErrForm}, {[4]complex64{complex(nan, 5000)}, api.ErrForm},
		// both errors of one before the next one
		{[4]complex64{5000, complex(nan, 0)}, api.ErrRange}, {[4]complex64{complex(nan, 0), 5000}, api.ErrForm},
		{[4]complex64{0, 0, 0, 5000}, api.ErrRange}, {[4]complex64{0, 0, 0, complex(0, infinite)}, api.ErrForm},
		{[4]complex64{1, 0, 0, 0.01}, api.ErrRange},
		// no transform of four samples
		{[4]complex64{0.0625}, api.ErrForm}, {[4]complex64{0.125}, api.ErrForm},
		{[4]complex64{0, 1}, api.ErrForm}, {[4]complex64{0, 0, 0, 1}, api.ErrForm},
		{[4]complex64{0.25i}, api.ErrForm}, {[4]complex64{0, 0, 0.25i}, api.ErrForm},
		{[4]complex64{0, 0.25 + 0.25i, 0, 0.25 + 0.25i}, api.ErrForm},
		{[4]complex64{4096, 0, 4096}, api.ErrForm},
		{[4]complex64{-4096, 0, -4096}, api.ErrForm},
		{[4]complex64{4096, 0, 0.25}, api.ErrForm},
		{[4]complex64{-4096, 0, 0.25}, api.ErrForm},
	} {
		l, e := carrier.Unfour(x.p)
		if l != [4]float32{} || e != x.e {
			t.Errorf("Unfour(%v): got %v and %d, want nothing and %d", x.p, l, e, x.e)
		}
	}
}

func TestUnfourOfChanged(t *testing.T) {
	p, _ := carrier.Four([4]float32{1, 2, 3, 4})
	for k := range 4 {
		for _, d := range []complex64{0.0625, -0.0625, 0.0625i, -0.0625i} {
			q := p
			q[k] += d
			_, e := carrier.Unfour(q)
			same(t, "Unfour of a changed panel", e, api.ErrForm)
		}
	}
}

func TestPowers(t *testing.T) {
	l, e := carrier.Powers(floats(1, -1, 1, -1, 1, 0, -1, 0, 1, 1, 1, 1, 0, 0.0625, 0, 0))
	sameResult(t, "Powers", l, e, [][3]int{{0, 0, 4096}, {0, 1024, 0}, {4096, 0, 0}, {1, 1, 1}}, api.OK)
	l, e = carrier.Powers(floats(1, 2, 3, 4))
	sameResult(t, "Powers of both parts", l, e, [][3]int{{160 * 160, 2 * 32 * 32, 32 * 32}}, api.OK)
	l, e = carrier.Powers(floats(1024, 1024, 1024, 1024))
	sameResult(t, "Powers of the greatest", l, e, [][3]int{{1 << 32, 0, 0}}, api.OK)
	l, e = carrier.Powers(nil)
	sameResult(t, "Powers of nothing", l, e, nil, api.OK)
	l, e = carrier.Powers(make([]float32, 4096))
	sameResult(t, "Powers of silence", l, e, make([][3]int, 1024), api.OK)
}

// wrongWindows has samples that are no windows.
var wrongWindows = []struct {
	l []float32
	e api.Errno
}{
	{floats(1), api.ErrShape}, {floats(1, 2), api.ErrShape}, {floats(1, 2, 3), api.ErrShape}, {floats(1, 2, 3, 4, 5), api.ErrShape}, {make([]float32, 4095), api.ErrShape},
	{floats(1, 2, nan), api.ErrForm}, {floats(1, 2000, 3), api.ErrRange}, {floats(1, 2, 3, infinite), api.ErrForm}, {make([]float32, 4097), api.ErrMany}, {make([]float32, 4100), api.ErrMany},
}

func TestPowersWithErrors(t *testing.T) {
	for _, x := range wrongWindows {
		l, e := carrier.Powers(x.l)
		sameResult(t, "Powers", l, e, nil, x.e)
	}
}

func TestViolations(t *testing.T) {
	l := floats(1, -1, 1, -1, 1, 0, -1, 0, 1, 1, 1, 1, 0, 0, 0, 0)
	for _, x := range []struct {
		mask  [3]bool
		limit int
		want  []int
	}{
		{[3]bool{false, false, true}, 4095, ints(0)}, {[3]bool{false, false, true}, 4096, nil},
		{[3]bool{false, true, false}, 1023, ints(1)}, {[3]bool{false, true, false}, 1024, nil},
		{[3]bool{true, false, false}, 4095, ints(2)}, {[3]bool{true, false, false}, 4096, nil},
		{[3]bool{true, true, false}, 0, ints(1, 2)}, {[3]bool{true, true, true}, 0, ints(0, 1, 2)}, {[3]bool{true, true, true}, 1024, ints(0, 2)},
		{[3]bool{}, 0, nil}, {[3]bool{true, true, true}, 1 << 34, nil},
	} {
		got, e := carrier.Violations(l, x.mask, x.limit)
		sameResult(t, "Violations", got, e, x.want, api.OK)
	}
	got, e := carrier.Violations(nil, [3]bool{true, true, true}, 0)
	sameResult(t, "Violations of nothing", got, e, nil, api.OK)
	got, e = carrier.Violations(floats(1024, 1024, 1024, 1024), [3]bool{true}, 1<<32-1)
	sameResult(t, "Violations of the greatest", got, e, ints(0), api.OK)
}

func TestViolationsWithErrors(t *testing.T) {
	for _, x := range wrongWindows {
		for _, limit := range []int{0, -1, 1<<34 + 1} {
			got, e := carrier.Violations(x.l, [3]bool{true, true, true}, limit)
			sameResult(t, "Violations", got, e, nil, x.e)
		}
	}
	for _, limit := range []int{-1, 1<<34 + 1, math.MinInt, math.MaxInt} {
		for _, mask := range [][3]bool{{}, {true, true, true}} {
			got, e := carrier.Violations(floats(1, 1, 1, 1), mask, limit)
			sameResult(t, "Violations by a wrong limit", got, e, nil, api.ErrRange)
		}
	}
}

func TestModulated(t *testing.T) {
	for _, x := range []struct {
		level  int
		phases []int
		want   []float32
	}{
		{16, nil, floats(1, 0, -1, 0)},
		{16, ints(0), floats(1, 0, -1, 0, 1, 0, -1, 0)},
		{16, ints(1), floats(1, 0, -1, 0, 0, -1, 0, 1)},
		{16, ints(2), floats(1, 0, -1, 0, -1, 0, 1, 0)},
		{16, ints(3), floats(1, 0, -1, 0, 0, 1, 0, -1)},
		{16, ints(1, 3, 2), floats(1, 0, -1, 0, 0, -1, 0, 1, 1, 0, -1, 0, -1, 0, 1, 0)},
		{8, ints(2, 1), floats(0.5, 0, -0.5, 0, -0.5, 0, 0.5, 0, 0, 0.5, 0, -0.5)},
		{1, ints(3), floats(0.0625, 0, -0.0625, 0, 0, 0.0625, 0, -0.0625)},
		{16384, ints(2), floats(1024, 0, -1024, 0, -1024, 0, 1024, 0)},
	} {
		l, e := carrier.Modulated(x.level, x.phases)
		sameResult(t, "Modulated", l, e, x.want, api.OK)
	}
	l, e := carrier.Modulated(16, repeated(1, 256))
	same(t, "Modulated of 256 phases: error", e, api.OK)
	same(t, "Modulated of 256 phases", len(l), 4*257)
	sameList(t, "Modulated of 256 phases: the last symbol", l[4*256:], floats(1, 0, -1, 0))
}

func TestModulatedWithErrors(t *testing.T) {
	for _, x := range []struct {
		level  int
		phases []int
		e      api.Errno
	}{
		{0, nil, api.ErrRange}, {-1, nil, api.ErrRange}, {16385, nil, api.ErrRange}, {math.MinInt, nil, api.ErrRange}, {math.MaxInt, nil, api.ErrRange},
		{16, ints(4), api.ErrRange}, {16, ints(-1), api.ErrRange}, {16, ints(0, 1, 2, 3, 4), api.ErrRange}, {16, ints(math.MinInt), api.ErrRange}, {16, ints(math.MaxInt), api.ErrRange},
		{16, make([]int, 257), api.ErrMany}, {16, repeated(9, 257), api.ErrMany}, {0, make([]int, 257), api.ErrRange},
	} {
		l, e := carrier.Modulated(x.level, x.phases)
		sameResult(t, "Modulated", l, e, nil, x.e)
	}
}

func TestDemodulated(t *testing.T) {
	for _, x := range []struct {
		l                []float32
		phases, doubtful []int
	}{
		{floats(1, 0, -1, 0, 0, -1, 0, 1), ints(1), nil},
		{floats(1, 0, -1, 0, -1, 0, 1, 0), ints(2), nil},
		{floats(1, 0, -1, 0, 0, 1, 0, -1), ints(3), nil},
		{floats(1, 0, -1, 0, 1, 0, -1, 0), ints(0), nil},
		{floats(1, 0, -1, 0, 0, 0, 0, 0), ints(0), ints(0)},
		{floats(0, 0, 0, 0, 1, 0, -1, 0), ints(0), ints(0)},
		{floats(1, 0, -1, 0, 1, -1, 0, 0), ints(0), ints(0)},  // 0 and 1
		{floats(1, 0, -1, 0, -1, -1, 0, 0), ints(1), ints(0)}, // 1 and 2
		{floats(1, 0, -1, 0, -1, 1, 0, 0), ints(2), ints(0)},  // 2 and 3
		{floats(1, 0, -1, 0, 1, 1, 0, 0), ints(0), ints(0)},   // 3 and 0
		{floats(1, 0, -1, 0, 1, -2, 0, 0), ints(1), nil},
		{floats(1, 0, -1, 0, 2, -1, 0, 0), ints(0), nil},
		{floats(1, 0, -1, 0, 2, 1, 0, 0), ints(0), nil},
		{floats(1, 0, -1, 0, 1, 2, 0, 0), ints(3), nil},
		{floats(1, 0, -1, 0, -1, 0, 1, 0, 0, -1, 0, 1), ints(2, 3), nil},
		{floats(0, -1, 0, 1, -1, 0, 1, 0), ints(1), nil},
		{floats(1, 0, -1, 0, 1, -1, 0, 0, 0, 0, 0, 0, 1, 0, 0, 0, 0, -1, 0, 0), ints(0, 0, 0, 1), ints(0, 1, 2)},
		{floats(1, 1, 1, 1, 1, -1, 1, -1), ints(0), ints(0)}, // nothing in the element 1
		{floats(1024, 1024, -1024, -1024, -1024, 1024, 1024, -1024), ints(3), nil},
	} {
		phases, doubtful, e := carrier.Demodulated(x.l)
		sameResult(t, "Demodulated", phases, e, x.phases, api.OK)
		sameList(t, "Demodulated: doubtful", doubtful, x.doubtful)
	}
}

// turned computes the phase between two windows in the plainest way.
func turned(before, after []float32) (phase int, doubtful bool) {
	a, b := complex128(transformed([4]float32(before))[1]), complex128(transformed([4]float32(after))[1])
	w := b * complex(real(a), -imag(a))
	parts := ints(int(256*real(w)), int(256*imag(w)), int(-256*real(w)), int(-256*imag(w)))
	greatest := slices.Max(parts)
	phase = slices.Index(parts, greatest)
	return phase, slices.Index(parts[phase+1:], greatest) >= 0
}

func TestDemodulatedOfMany(t *testing.T) {
	r := rand.New(rand.NewSource(2))
	for range 200 {
		var l []float32
		for range 4 * (2 + r.Intn(8)) {
			l = append(l, float32(r.Intn(7)-3)/16)
		}
		var phases, doubtful []int
		for i := 4; i < len(l); i += 4 {
			phase, both := turned(l[i-4:], l[i:])
			phases = append(phases, phase)
			if both {
				doubtful = append(doubtful, i/4-1)
			}
		}
		gotPhases, gotDoubtful, e := carrier.Demodulated(l)
		sameResult(t, "Demodulated", gotPhases, e, phases, api.OK)
		sameList(t, "Demodulated: doubtful", gotDoubtful, doubtful)
	}
}

func TestDemodulatedWithErrors(t *testing.T) {
	for _, x := range wrongWindows {
		phases, doubtful, e := carrier.Demodulated(x.l)
		sameResult(t, "Demodulated", phases, e, nil, x.e)
		sameList(t, "Demodulated: doubtful", doubtful, nil)
	}
	for _, l := range [][]float32{nil, floats(1, 0, -1, 0)} {
		phases, doubtful, e := carrier.Demodulated(l)
		sameResult(t, "Demodulated of too few", phases, e, nil, api.ErrShort)
		sameList(t, "Demodulated of too few: doubtful", doubtful, nil)
	}
	phases, _, e := carrier.Demodulated(make([]float32, 4096))
	sameResult(t, "Demodulated of the most", phases, e, make([]int, 1023), api.OK)
}

func TestFound(t *testing.T) {
	for _, x := range []struct {
		l, pilot []float32
		at       int
		two      [2]int
	}{
		{floats(0, 1, -1, 0), floats(1, -1), 1, [2]int{512, -256}},
		{floats(1, 1), floats(2), 0, [2]int{512, 512}},
		{floats(-1, -2), floats(1), 0, [2]int{-256, -512}},
		{floats(-2, -1), floats(1), 1, [2]int{-256, -512}},
		{floats(3, 0, 0, 5), floats(1), 3, [2]int{1280, 768}},
		{floats(0, 2, 1, 2, 0), floats(1), 1, [2]int{512, 512}},
		{floats(1, 2, 3), floats(0), 0, [2]int{0, 0}},
		{floats(0, 1, 2, 3), floats(1, 2, 3), 1, [2]int{3584, 2048}},
		{floats(2, 1, 0), floats(2, 1), 0, [2]int{1280, 512}},
		{samplesOf(1, 2), samplesOf(3), 1, [2]int{6, 3}},
		{append(repeated(float32(1024), 64), 0), repeated(float32(1024), 64), 0, [2]int{64 << 28, 63 << 28}},
	} {
		at, two, e := carrier.Found(x.l, x.pilot)
		same(t, "Found", at, x.at)
		same(t, "Found: correlations", two, x.two)
		same(t, "Found: error", e, api.OK)
	}
}

func TestFoundWithErrors(t *testing.T) {
	for _, x := range []struct {
		l, pilot []float32
		e        api.Errno
	}{
		{nil, floats(1), api.ErrShort}, {floats(1), floats(1), api.ErrShort}, {floats(1), floats(1, 2), api.ErrShort}, {floats(1), floats(1, 2, 3), api.ErrShort},
		{floats(1, 2), nil, api.ErrEmpty}, {nil, nil, api.ErrEmpty},
		{floats(1, 2), make([]float32, 65), api.ErrMany}, {floats(1, 2), repeated(nan, 65), api.ErrMany}, {make([]float32, 64), make([]float32, 64), api.ErrShort},
		{floats(1, 2), floats(nan), api.ErrForm}, {floats(1, 2), floats(1, 0.01), api.ErrRange}, {floats(1), floats(2000), api.ErrRange},
		{floats(2000, 2), floats(1), api.ErrRange}, {floats(1, nan), nil, api.ErrForm}, {make([]float32, 4097), nil, api.ErrMany},
	} {
		at, two, e := carrier.Found(x.l, x.pilot)
		same(t, "Found beside an error", at, 0)
		same(t, "Found beside an error: correlations", two, [2]int{})
		same(t, "Found: error", e, x.e)
	}
	_, _, e := carrier.Found(make([]float32, 4096), make([]float32, 64))
	same(t, "Found in the most", e, api.OK)
}
