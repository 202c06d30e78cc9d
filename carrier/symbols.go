package carrier

import (
	"iter"
	"slices"

	"kilovar/api"
)

// turns has the powers of i: i to the power of n is at the index n modulo 4.
var turns = [4]api.Gauss{{Re: 1}, {Im: 1}, {Re: -1}, {Im: -1}}

func times(a, b api.Gauss) api.Gauss {
	return api.Gauss{Re: a.Re*b.Re - a.Im*b.Im, Im: a.Re*b.Im + a.Im*b.Re}
}

func plus(a, b api.Gauss) api.Gauss {
	return api.Gauss{Re: a.Re + b.Re, Im: a.Im + b.Im}
}

func conjugate(a api.Gauss) api.Gauss {
	return api.Gauss{Re: a.Re, Im: -a.Im}
}

// square returns the squares of both parts together.
func square(a api.Gauss) int {
	return a.Re*a.Re + a.Im*a.Im
}

// windows visits the integers of the windows of samples, with their indices.
func windows(l []float32) iter.Seq2[int, [4]int] {
	return func(yield func(int, [4]int) bool) {
		for i := range len(l) / 4 {
			if !yield(i, integers([4]float32(l[4*i:]))) {
				return
			}
		}
	}
}

func integers(l [4]float32) [4]int {
	var w [4]int
	for n, x := range l {
		w[n] = integer(x)
	}
	return w
}

// transform returns the transform of the integers of four samples: -i to the power of k n is i to the power of 3 k n.
func transform(w [4]int) [4]api.Gauss {
	var p [4]api.Gauss
	for k := range p {
		for n, x := range w {
			p[k] = plus(p[k], times(api.Gauss{Re: x}, turns[3*k*n%4]))
		}
	}
	return p
}

// Four returns the transform of four samples.
func Four(l [4]float32) ([4]complex64, api.Errno) {
	var out [4]complex64
	if e := checkEach(l[:], CheckSample); e != api.OK {
		return out, e
	}
	for k, z := range transform(integers(l)) {
		out[k] = complex(sample(z.Re), sample(z.Im))
	}
	return out, api.OK
}

// Unfour returns the samples of a panel.
func Unfour(p [4]complex64) ([4]float32, api.Errno) {
	if e := checkEach(p[:], checkElement); e != api.OK {
		return [4]float32{}, e
	}
	var out [4]float32
	for n := range out {
		var sum api.Gauss // four times the sample n: the transform is undone by the powers of i
		for k, z := range p {
			sum = plus(sum, times(api.Gauss{Re: integer(real(z)), Im: integer(imag(z))}, turns[k*n%4]))
		}
		if sum.Im != 0 || sum.Re%4 != 0 || within(sum.Re/4, -scale*api.MaxValue, scale*api.MaxValue) != api.OK {
			return [4]float32{}, api.ErrForm
		}
		out[n] = sample(sum.Re / 4)
	}
	return out, api.OK
}

// checkElement returns the first error of an element of a panel, or OK.
func checkElement(z complex64) api.Errno {
	const limit = 4 * api.MaxValue
	return first(checkFinite(real(z)), checkFinite(imag(z)), checkMultiple(real(z), limit), checkMultiple(imag(z), limit))
}

// checkWindows returns the first error of samples that consist of windows, or OK.
func checkWindows(l []float32) api.Errno {
	return first(CheckSamples(l), failIf(len(l)%4 != 0, api.ErrShape))
}

// Powers returns the powers of all windows.
func Powers(l []float32) ([][3]int, api.Errno) {
	if e := checkWindows(l); e != api.OK {
		return nil, e
	}
	var out [][3]int
	for _, w := range windows(l) {
		out = append(out, powers(w))
	}
	return out, api.OK
}

func powers(w [4]int) [3]int {
	p := transform(w)
	return [3]int{square(p[0]), square(p[1]), square(p[2])}
}

// Violations returns the indices of the windows that violate a mask.
func Violations(l []float32, mask [3]bool, limit int) ([]int, api.Errno) {
	if e := first(checkWindows(l), within(limit, 0, MaxPower)); e != api.OK {
		return nil, e
	}
	var out []int
	for i, w := range windows(l) {
		if violates(powers(w), mask, limit) {
			out = append(out, i)
		}
	}
	return out, api.OK
}

func violates(powers [3]int, mask [3]bool, limit int) bool {
	for k, notch := range mask {
		if notch && powers[k] > limit {
			return true
		}
	}
	return false
}

func checkPhases(phases []int) api.Errno {
	return checkList(phases, MaxPhases, func(p int) api.Errno { return within(p, 0, 3) })
}

// Modulated returns the samples of phases.
func Modulated(level int, phases []int) ([]float32, api.Errno) {
	if e := first(within(level, 1, MaxLevel), checkPhases(phases)); e != api.OK {
		return nil, e
	}
	out := withSymbol(nil, level, 0)
	sum := 0
	for _, p := range phases {
		sum = (sum + p) % 4
		out = withSymbol(out, level, sum)
	}
	return out, api.OK
}

// withSymbol returns samples with the symbol of a phase behind them.
func withSymbol(l []float32, level, phase int) []float32 {
	for n := range 4 {
		l = append(l, sample(level*turns[(n+phase)%4].Re))
	}
	return l
}

// Demodulated returns the phases of samples, and the indices of those that are doubtful.
func Demodulated(l []float32) ([]int, []int, api.Errno) {
	if e := first(checkWindows(l), failIf(len(l) < 8, api.ErrShort)); e != api.OK {
		return nil, nil, e
	}
	var phases, doubtful []int
	var before api.Gauss
	for i, w := range windows(l) {
		z := transform(w)[1]
		if i > 0 {
			phase, sure := phaseOf(times(z, conjugate(before)))
			phases = append(phases, phase)
			if !sure {
				doubtful = append(doubtful, i-1)
			}
		}
		before = z
	}
	return phases, doubtful, api.OK
}

// phaseOf returns the least number of quarter turns back after which a complex integer has its greatest real part, and whether it is the only one.
func phaseOf(w api.Gauss) (int, bool) {
	phase, greatest, sure := 0, w.Re, true
	for d := 1; d < 4; d++ {
		part := times(w, turns[4-d]).Re
		if part == greatest {
			sure = false
		}
		if part > greatest {
			phase, greatest, sure = d, part, true
		}
	}
	return phase, sure
}

// Found returns the index of a pilot, and both correlations.
func Found(l, pilot []float32) (int, [2]int, api.Errno) {
	if e := first(CheckSamples(l), checkPilot(pilot), failIf(len(l) <= len(pilot), api.ErrShort)); e != api.OK {
		return 0, [2]int{}, e
	}
	var all []int
	for i := range len(l) - len(pilot) + 1 {
		all = append(all, correlation(l[i:], pilot))
	}
	greatest := slices.Max(all)
	at := slices.Index(all, greatest)
	return at, [2]int{greatest, slices.Max(slices.Delete(all, at, at+1))}, api.OK
}

func checkPilot(pilot []float32) api.Errno {
	return first(failIf(len(pilot) == 0, api.ErrEmpty), checkList(pilot, MaxPilot, CheckSample))
}

func correlation(l, pilot []float32) int {
	sum := 0
	for n, x := range pilot {
		sum += integer(x) * integer(l[n])
	}
	return sum
}
