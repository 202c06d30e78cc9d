package carrier_test

import (
	"math"
	"math/rand"
	"reflect"
	"testing"

	"kilovar/api"
	"kilovar/carrier"
)

// P1: every function terminates and never panics, for all arguments; they are not modified, and results share no memory with them.

// arguments has one of each kind that functions take.
type arguments struct {
	x, y    int
	samples []float32
	pilot   []float32
	numbers []int
	s, s2   []byte
	text    string
	key     api.Key
	blocks  []api.Block
	seals   []api.Key
	list    []carrier.Telegram
}

// calls calls all functions, and returns their results.
func calls(a arguments) []any {
	var out []any
	add := func(results ...any) { out = append(out, results...) }
	add(carrier.IsName(a.text), carrier.CheckRatio(api.Ratio{Num: a.x, Den: a.y}), carrier.CheckSamples(a.samples))
	l, e := carrier.Draw(a.x, a.y)
	add(l, e)
	var four [4]float32
	copy(four[:], a.samples)
	p, e := carrier.Four(four)
	add(p, e, carrier.CheckSample(four[0]))
	var panel [4]complex64
	for i, x := range four {
		panel[i] = complex(x, four[(i+1)%4])
	}
	four, e = carrier.Unfour(panel)
	add(four, e)
	powers, e := carrier.Powers(a.samples)
	add(powers, e)
	l, e = carrier.Violations(a.samples, [3]bool{a.x%2 == 0, a.y%2 == 0, true}, a.x)
	add(l, e)
	samples, e := carrier.Modulated(a.x, a.numbers)
	add(samples, e)
	l, l2, e := carrier.Demodulated(a.samples)
	add(l, l2, e)
	at, two, e := carrier.Found(a.samples, a.pilot)
	add(at, two, e)
	return append(out, moreCalls(a)...)
}

func moreCalls(a arguments) []any {
	var out []any
	add := func(results ...any) { out = append(out, results...) }
	l, e := carrier.Bits(a.s)
	add(l, e)
	s, e := carrier.Bytes(a.numbers)
	add(s, e)
	l, e = carrier.Phases(a.numbers)
	add(l, e)
	l, e = carrier.Unphased(a.numbers)
	add(l, e)
	n, e := carrier.Distance(a.s, a.s2)
	add(n, e)
	seal, e := carrier.Seal(a.key, a.s)
	add(seal, e)
	seals, e := carrier.Chain(a.key, a.blocks)
	add(seals, e)
	n, e = carrier.CheckChain(a.key, a.blocks, a.seals)
	add(n, e)
	for _, x := range a.list {
		f, e := carrier.Encode(a.key, x)
		add(f, e)
	}
	var f [carrier.Size]byte
	copy(f[:], a.s)
	x, e := carrier.Decode(a.key, f)
	add(x, e)
	list, spans, e := carrier.Received(a.key, a.s)
	add(list, spans, e)
	l, e = carrier.Lost(a.list, a.x)
	add(l, e)
	s, e = carrier.Pack(a.samples)
	add(s, e)
	samples, e := carrier.Unpack(a.s)
	add(samples, e)
	text, e := carrier.Print(a.samples)
	add(text, e)
	samples, n, e = carrier.Parse(a.text)
	add(samples, n, e)
	return out
}

// spoil changes all elements of all lists among results.
func spoil(results []any) {
	for _, x := range results {
		if v := reflect.ValueOf(x); v.Kind() == reflect.Slice {
			for i := range v.Len() {
				v.Index(i).SetZero()
			}
		}
	}
}

func anyInt(r *rand.Rand) int {
	return []int{r.Intn(5), r.Intn(300) - 10, r.Intn(70000) - 100, math.MinInt, math.MaxInt, int(r.Uint64())}[r.Intn(6)]
}

func anyFloat(r *rand.Rand, wild bool) float32 {
	if !wild {
		return float32(r.Intn(65)-32) / 16
	}
	return []float32{nan, infinite, -infinite, minus0, math.MaxFloat32, math.Float32frombits(r.Uint32()), float32(r.Intn(40000)-20000) / 16}[r.Intn(7)]
}

func anyText(r *rand.Rand) string {
	s := ""
	for range r.Intn(6) {
		s += []string{"series", "sample", " ", "\n", "1", "0", "-", "\xff", "\u00e4", "series 1\n", "sample 3\n"}[r.Intn(11)]
	}
	return s
}

// anyStream returns bytes that often are a stream, or begin like one, or like a frame.
func anyStream(r *rand.Rand, key api.Key) []byte {
	switch r.Intn(4) {
	case 0:
		s := streamOf(r.Intn(4), []uint32{0, 0x3f800000, r.Uint32(), 1 << 31}[:r.Intn(5)]...)
		return s[:r.Intn(len(s)+1)]
	case 1:
		return append(randomBytes(r, r.Intn(3)), framed(key, randomTelegram(r))...)
	case 2:
		return nil
	}
	return randomBytes(r, r.Intn(300))
}

func anyArguments(r *rand.Rand) arguments {
	a := arguments{x: anyInt(r), y: anyInt(r), text: anyText(r), key: randomKey(r), s2: randomBytes(r, r.Intn(5))}
	wild := r.Intn(4) == 0
	for range 4 * r.Intn(6) {
		a.samples = append(a.samples, anyFloat(r, wild))
	}
	for range r.Intn(4) {
		a.pilot = append(a.pilot, anyFloat(r, wild))
		a.blocks = append(a.blocks, api.Block(randomBytes(r, 16)))
	}
	for range 8 * r.Intn(4) {
		n := r.Intn(2)
		if wild {
			n = anyInt(r)
		}
		a.numbers = append(a.numbers, n)
	}
	a.s = anyStream(r, a.key)
	a.seals = value(carrier.Chain(a.key, a.blocks))
	for range r.Intn(5) {
		x := carrier.Telegram{Station: r.Intn(3), Counter: r.Intn(50), Kind: r.Intn(3)}
		if wild {
			x = carrier.Telegram{Station: anyInt(r), Counter: anyInt(r), Kind: anyInt(r)}
		}
		a.list = append(a.list, x)
	}
	return a
}

// TestAllArguments calls all functions twice with equal arguments, and spoils the first results in between.
func TestAllArguments(t *testing.T) {
	for seed := range int64(3000) {
		a := anyArguments(rand.New(rand.NewSource(seed)))
		first := calls(a)
		spoil(first)
		second := calls(a)
		again := anyArguments(rand.New(rand.NewSource(seed)))
		if !reflect.DeepEqual(bare(a), bare(again)) {
			t.Fatalf("arguments are modified: %v", a)
		}
		third := calls(again)
		for i := range second {
			if !reflect.DeepEqual(bare(second[i]), bare(third[i])) {
				t.Fatalf("result %d depends on more than the arguments %v", i, again)
			}
		}
	}
}

// bare returns a value in which floats are their bits: NaN is not equal to itself.
func bare(x any) any {
	switch x := x.(type) {
	case []float32:
		return words(x)
	case arguments:
		return []any{words(x.samples), words(x.pilot), x.numbers, x.s, x.s2, x.blocks, x.seals, x.list}
	}
	return x
}

func TestResultsShareNoMemory(t *testing.T) {
	for seed := range int64(500) {
		results := calls(anyArguments(rand.New(rand.NewSource(seed))))
		seen := map[uintptr]bool{}
		for _, x := range results {
			if v := reflect.ValueOf(x); v.Kind() == reflect.Slice && v.Len() > 0 {
				if seen[v.Pointer()] {
					t.Fatal("two results share memory")
				}
				seen[v.Pointer()] = true
			}
		}
	}
}

func TestNothing(t *testing.T) {
	for _, e := range calls(arguments{}) {
		if n, ok := e.(api.Errno); ok && (n < api.OK || n > api.ErrOld) {
			t.Errorf("error %d", n)
		}
	}
}
