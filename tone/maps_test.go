package tone_test

import (
	"cmp"
	"math/rand"
	"slices"
	"testing"

	"kilovar/api"
	"kilovar/tone"
)

// P2.2

// tonesCase is a change of the tones of the examples, and the error that it leads to.
type tonesCase struct {
	what   string
	change func(x *tone.Tones)
	e      api.Errno
}

func TestCheckTones(t *testing.T) {
	for _, x := range []tonesCase{
		{"nothing", func(x *tone.Tones) {}, api.OK},
		{"no signals", func(x *tone.Tones) { x.Signal = nil }, api.ErrEmpty},
		{"8 carriers", func(x *tone.Tones) { x.Signal, x.Noise = make([]int, 8), [][]int{repeated(1, 8)} }, api.OK},
		{"9 carriers", func(x *tone.Tones) { x.Signal, x.Noise = make([]int, 9), [][]int{repeated(1, 9)} }, api.ErrMany},
		{"9 carriers, a wrong signal", func(x *tone.Tones) { x.Signal = repeated(-1, 9) }, api.ErrMany},
		{"a signal below 0", func(x *tone.Tones) { x.Signal[2] = -1 }, api.ErrRange},
		{"the greatest signal", func(x *tone.Tones) { x.Signal[0] = 1000000000 }, api.OK},
		{"a signal above it", func(x *tone.Tones) { x.Signal[0] = 1000000001 }, api.ErrRange},
		{"a wrong signal and no parts", func(x *tone.Tones) { x.Signal[0], x.Noise = -1, nil }, api.ErrRange},
		{"no parts", func(x *tone.Tones) { x.Noise = nil }, api.ErrEmpty},
		{"8 parts", func(x *tone.Tones) { x.Noise = repeated(ints(1, 1, 1), 8) }, api.OK},
		{"9 parts", func(x *tone.Tones) { x.Noise = repeated(ints(1, 1, 1), 9) }, api.ErrMany},
		{"9 parts, a wrong one", func(x *tone.Tones) { x.Noise = repeated(ints(), 9) }, api.ErrMany},
		{"a part of two carriers", func(x *tone.Tones) { x.Noise[0] = ints(1, 1) }, api.ErrShape},
		{"a part of four carriers", func(x *tone.Tones) { x.Noise[0] = ints(0, 1, 1, 1) }, api.ErrShape},
		{"a part without carriers", func(x *tone.Tones) { x.Noise = append(x.Noise, nil) }, api.ErrShape},
		{"no noise", func(x *tone.Tones) { x.Noise[0][1] = 0 }, api.ErrRange},
		{"the greatest noise", func(x *tone.Tones) { x.Noise[0][1] = 1000000 }, api.OK},
		{"a noise above it", func(x *tone.Tones) { x.Noise[0][1] = 1000001 }, api.ErrRange},
		{"the first part decides", func(x *tone.Tones) { x.Noise = [][]int{{1, 0, 1}, {1}} }, api.ErrRange},
		{"the second part", func(x *tone.Tones) { x.Noise = [][]int{{1, 1, 1}, {1}} }, api.ErrShape},
		{"a part, then the margin", func(x *tone.Tones) { x.Noise[0], x.Margin = nil, 0 }, api.ErrShape},
		{"no margin", func(x *tone.Tones) { x.Margin = 0 }, api.ErrRange},
		{"the greatest margin", func(x *tone.Tones) { x.Margin = 100 }, api.OK},
		{"a margin above it", func(x *tone.Tones) { x.Margin = 101 }, api.ErrRange},
		{"no mask", func(x *tone.Tones) { x.Mask = 0 }, api.ErrRange},
		{"the greatest mask", func(x *tone.Tones) { x.Mask = 1000000 }, api.OK},
		{"a mask above it", func(x *tone.Tones) { x.Mask = 1000001 }, api.ErrRange},
		{"the mask, then a notch", func(x *tone.Tones) { x.Mask, x.Notches = 0, ints(3) }, api.ErrRange},
		{"a notch of no carrier", func(x *tone.Tones) { x.Notches = ints(3) }, api.ErrUnknown},
		{"the notch -1", func(x *tone.Tones) { x.Notches = ints(-1) }, api.ErrUnknown},
		{"all notches", func(x *tone.Tones) { x.Notches = ints(0, 1, 2) }, api.OK},
		{"a notch twice", func(x *tone.Tones) { x.Notches = ints(1, 1) }, api.ErrOrder},
		{"notches that descend", func(x *tone.Tones) { x.Notches = ints(0, 2, 1) }, api.ErrOrder},
		{"unknown, then the order", func(x *tone.Tones) { x.Notches = ints(1, -1) }, api.ErrUnknown},
		{"the first notch decides", func(x *tone.Tones) { x.Notches = ints(1, 1, 3) }, api.ErrOrder},
	} {
		tones := line()
		x.change(&tones)
		same(t, "CheckTones: "+x.what, tone.CheckTones(tones), x.e)
	}
}

func TestTonesWithErrors(t *testing.T) {
	x := line()
	x.Mask = 0
	n, e := tone.Power(x, 9, 9, 9)
	same(t, "Power", all(n, e), all(0, api.ErrRange))
	l, e := tone.Carries(x, 9)
	same(t, "Carries", all(l, e), all(ints(), api.ErrRange))
	l, e = tone.Robust(x)
	same(t, "Robust", all(l, e), all(ints(), api.ErrRange))
	n, e = tone.CheckMap(x, 9, nil)
	same(t, "CheckMap", all(n, e), all(0, api.ErrRange))
	l, n, e = tone.Best(x, 9, 0)
	same(t, "Best", all(l, n, e), all(ints(), 0, api.ErrRange))
	n, e = tone.Bound(x, 9, 0, 0)
	same(t, "Bound", all(n, e), all(0, api.ErrRange))
}

func TestPower(t *testing.T) {
	for carrier, powers := range [][]int{{0, 1, 1, 1, 2, 4, 7}, {0, 1, 3, 7, 15, 31, 63}} {
		for bits, want := range powers {
			n, e := tone.Power(line(), 0, carrier, bits)
			same(t, "Power", all(n, e), all(want, api.OK))
		}
	}
	for bits := range 7 {
		n, e := tone.Power(line(), 0, 2, bits)
		want := all(0, api.OK)
		if bits > 0 {
			want[1] = api.ErrNone
		}
		same(t, "Power without a signal", all(n, e), want)
	}
	x := line()
	x.Notches, x.Mask = ints(1), 1
	n, e := tone.Power(x, 0, 1, 6)
	same(t, "Power of a notched carrier, above the mask", all(n, e), all(63, api.OK))
	x = tone.Tones{Signal: ints(1, 1000000000), Noise: [][]int{{1, 1}, {1000000, 1000000}}, Margin: 100, Mask: 1}
	n, e = tone.Power(x, 1, 0, 6)
	same(t, "Power: the greatest", all(n, e), all(6300000000, api.OK))
	n, e = tone.Power(x, 1, 1, 6)
	same(t, "Power of the greatest signal", all(n, e), all(7, api.OK))
	n, e = tone.Power(x, 0, 0, 6)
	same(t, "Power in another part", all(n, e), all(6300, api.OK))
}

func TestPowerWithErrors(t *testing.T) {
	for _, x := range []struct {
		part, carrier, bits int
		e                   api.Errno
	}{{-1, 0, 0, api.ErrUnknown}, {1, 0, 7, api.ErrUnknown}, {0, -1, 0, api.ErrUnknown}, {0, 3, 7, api.ErrUnknown}, {0, 0, -1, api.ErrRange}, {0, 0, 7, api.ErrRange}, {0, 2, 7, api.ErrRange}, {0, 2, 1, api.ErrNone}} {
		n, e := tone.Power(line(), x.part, x.carrier, x.bits)
		same(t, "Power with errors", all(n, e), all(0, x.e))
	}
}

// powerOf searches for a power; there is none without a signal.
func powerOf(x tone.Tones, part, carrier, bits int) (int, bool) {
	if bits > 0 && x.Signal[carrier] == 0 {
		return 0, false
	}
	p, levels := 0, 1
	for range bits {
		levels *= 2
	}
	for p*x.Signal[carrier] < x.Margin*(levels-1)*x.Noise[part][carrier] {
		p++
	}
	return p, true
}

// carriesOf computes what each carrier carries in a part.
func carriesOf(x tone.Tones, part int) []int {
	out := make([]int, len(x.Signal))
	for k := range out {
		for bits := range 7 {
			if p, ok := powerOf(x, part, k, bits); ok && p <= x.Mask && !slices.Contains(x.Notches, k) {
				out[k] = bits
			}
		}
	}
	return out
}

func TestCarries(t *testing.T) {
	two := line()
	two.Noise = [][]int{{1, 1, 1}, {5, 4, 1}}
	notched := two
	notched.Notches = ints(1)
	masked := line()
	masked.Mask = 31
	just := line()
	just.Mask = 30
	for _, x := range []struct {
		tones tone.Tones
		part  int
		bits  []int
	}{{line(), 0, ints(6, 4, 0)}, {two, 0, ints(6, 4, 0)}, {two, 1, ints(5, 2, 0)}, {notched, 1, ints(5, 0, 0)}, {masked, 0, ints(6, 5, 0)}, {just, 0, ints(6, 4, 0)}} {
		l, e := tone.Carries(x.tones, x.part)
		same(t, "Carries", all(l, e), all(x.bits, api.OK))
	}
	for _, part := range ints(-1, 1) {
		l, e := tone.Carries(line(), part)
		same(t, "Carries in no part", all(l, e), all(ints(), api.ErrUnknown))
	}
	l, e := tone.Robust(two)
	same(t, "Robust", all(l, e), all(ints(5, 2, 0), api.OK))
	two.Noise = [][]int{{5, 1, 1}, {1, 4, 1}}
	l, e = tone.Robust(two)
	same(t, "Robust of two parts that are worse in turn", all(l, e), all(ints(5, 2, 0), api.OK))
	l, e = tone.Robust(line())
	same(t, "Robust of one part", all(l, e), all(ints(6, 4, 0), api.OK))
}

func TestCheckMap(t *testing.T) {
	notched := line()
	notched.Notches = ints(1)
	for _, x := range []struct {
		tones tone.Tones
		part  int
		bits  []int
		power int
		e     api.Errno
	}{
		{line(), 0, ints(6, 4, 0), 22, api.OK}, {line(), 0, ints(0, 0, 0), 0, api.OK}, {line(), 0, ints(3, 2, 0), 4, api.OK},
		{line(), 0, ints(0, 5, 0), 0, api.ErrLimit}, {line(), 0, ints(6, 4, 1), 0, api.ErrLimit},
		{notched, 0, ints(0, 1, 0), 0, api.ErrLimit}, {notched, 0, ints(6, 0, 0), 7, api.OK},
		{line(), -1, ints(0, 0, 0), 0, api.ErrUnknown}, {line(), 1, ints(0), 0, api.ErrUnknown},
		{line(), 0, nil, 0, api.ErrShape}, {line(), 0, ints(0, 0), 0, api.ErrShape}, {line(), 0, ints(7, 0, 0, 0), 0, api.ErrShape},
		{line(), 0, ints(0, 0, 7), 0, api.ErrRange}, {line(), 0, ints(0, 5, -1), 0, api.ErrRange}, {line(), 0, ints(-1, 0, 0), 0, api.ErrRange},
	} {
		n, e := tone.CheckMap(x.tones, x.part, x.bits)
		same(t, "CheckMap", all(n, e), all(x.power, x.e))
	}
}

func TestBest(t *testing.T) {
	for _, x := range []struct {
		budget int
		bits   []int
		power  int
	}{{10, ints(6, 2, 0), 10}, {9, ints(5, 2, 0), 7}, {8, ints(5, 2, 0), 7}, {0, ints(0, 0, 0), 0}, {1, ints(3, 0, 0), 1}, {21, ints(6, 3, 0), 14}, {22, ints(6, 4, 0), 22}, {10000000, ints(6, 4, 0), 22}} {
		l, n, e := tone.Best(line(), 0, x.budget)
		same(t, "Best", all(l, n, e), all(x.bits, x.power, api.OK))
	}
	alike := tone.Tones{Signal: repeated(10, 8), Noise: [][]int{repeated(1, 8)}, Margin: 10, Mask: 63, Notches: ints(7)}
	for _, x := range []struct {
		budget int
		bits   []int
		power  int
	}{{2, ints(0, 0, 0, 0, 0, 1, 1, 0), 2}, {7, ints(1, 1, 1, 1, 1, 1, 1, 0), 7}, {8, ints(1, 1, 1, 1, 1, 1, 1, 0), 7}, {9, ints(1, 1, 1, 1, 1, 1, 2, 0), 9}, {441, ints(6, 6, 6, 6, 6, 6, 6, 0), 441}, {440, ints(5, 6, 6, 6, 6, 6, 6, 0), 409}} {
		l, n, e := tone.Best(alike, 0, x.budget)
		same(t, "Best of several", all(l, n, e), all(x.bits, x.power, api.OK))
	}
	most := tone.Tones{Signal: repeated(1000000000, 8), Noise: [][]int{repeated(1, 8)}, Margin: 1, Mask: 1}
	l, n, e := tone.Best(most, 0, 10000000)
	same(t, "Best with the most bits", all(l, n, e), all(repeated(6, 8), 8, api.OK))
}

func TestBudgetsWithErrors(t *testing.T) {
	for _, x := range []struct {
		part, budget, price int
		e                   api.Errno
	}{{-1, 0, 0, api.ErrUnknown}, {1, -1, 0, api.ErrUnknown}, {0, -1, 0, api.ErrRange}, {0, 10000001, 0, api.ErrRange}, {0, 0, -1, api.ErrRange}, {0, 0, 100001, api.ErrRange}} {
		n, e := tone.Bound(line(), x.part, x.budget, x.price)
		same(t, "Bound with errors", all(n, e), all(0, x.e))
		if x.price == 0 {
			l, n, e := tone.Best(line(), x.part, x.budget)
			same(t, "Best with errors", all(l, n, e), all(ints(), 0, x.e))
		}
	}
}

func TestBound(t *testing.T) {
	notched := line()
	notched.Notches = ints(0)
	for _, x := range []struct {
		tones         tone.Tones
		budget, price int
		bound         int
	}{{line(), 10, 400, 8200}, {line(), 10, 0, 10000}, {line(), 0, 0, 10000}, {line(), 0, 100000, 0}, {line(), 10000000, 100000, 1000000000000}, {line(), 10, 1000, 12000}, {notched, 10, 400, 4800}} {
		n, e := tone.Bound(x.tones, 0, x.budget, x.price)
		same(t, "Bound", all(n, e), all(x.bound, api.OK))
	}
}

// fitting visits all maps that fit tones in a part.
func fitting(x tone.Tones, part int, visit func(bits []int, sum, power int)) {
	carries := carriesOf(x, part)
	var visitAll func(head []int, sum, power int)
	visitAll = func(head []int, sum, power int) {
		k := len(head)
		if k == len(carries) {
			visit(slices.Clone(head), sum, power)
			return
		}
		for bits := 0; bits <= carries[k]; bits++ {
			p, _ := powerOf(x, part, k, bits)
			visitAll(append(head, bits), sum+bits, power+p)
		}
	}
	visitAll(nil, 0, 0)
}

// bestOf searches for the best map.
func bestOf(x tone.Tones, part, budget int) ([]int, int) {
	var best []int
	most, least := -1, 0
	fitting(x, part, func(bits []int, sum, power int) {
		if power <= budget && cmp.Or(cmp.Compare(most, sum), cmp.Compare(power, least), slices.Compare(bits, best)) < 0 {
			best, most, least = bits, sum, power
		}
	})
	return best, least
}

func TestRandomTones(t *testing.T) {
	r := rand.New(rand.NewSource(2))
	for range 300 {
		x := randomTones(r, 1+r.Intn(4))
		part := r.Intn(len(x.Noise))
		same(t, "CheckTones", tone.CheckTones(x), api.OK)
		robust := carriesOf(x, 0)
		for p := range x.Noise {
			l, e := tone.Carries(x, p)
			same(t, "Carries", all(l, e), all(carriesOf(x, p), api.OK))
			for k, bits := range l {
				robust[k] = min(robust[k], bits)
			}
		}
		l, e := tone.Robust(x)
		same(t, "Robust", all(l, e), all(robust, api.OK))
		budget, price := r.Intn(150), r.Intn(3000)
		best, least := bestOf(x, part, budget)
		l, n, e := tone.Best(x, part, budget)
		same(t, "Best", all(l, n, e), all(best, least, api.OK))
		n, e = tone.Bound(x, part, budget, price)
		same(t, "Bound", all(n, e), all(boundOf(x, part, budget, price), api.OK))
		checkRandomMap(t, r, x, part)
	}
}

// boundOf computes the bound of a price.
func boundOf(x tone.Tones, part, budget, price int) int {
	bound := price * budget
	for k, most := range carriesOf(x, part) {
		var l []int
		for bits := 0; bits <= most; bits++ {
			p, _ := powerOf(x, part, k, bits)
			l = append(l, 1000*bits-price*p)
		}
		bound += slices.Max(l)
	}
	return bound
}

func checkRandomMap(t *testing.T, r *rand.Rand, x tone.Tones, part int) {
	t.Helper()
	bits := randomBits(r, len(x.Signal))
	want := all(0, api.ErrLimit)
	fitting(x, part, func(l []int, _, power int) {
		if slices.Equal(l, bits) {
			want = all(power, api.OK)
		}
	})
	n, e := tone.CheckMap(x, part, bits)
	same(t, "CheckMap", all(n, e), want)
	for k, b := range bits {
		p, ok := powerOf(x, part, k, b)
		n, e := tone.Power(x, part, k, b)
		same(t, "Power", all(n, e == api.OK), all(p, ok))
	}
}
