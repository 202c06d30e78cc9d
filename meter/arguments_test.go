package meter_test

import (
	"fmt"
	"math"
	"math/rand"
	"reflect"
	"testing"

	"kilovar/api"
	"kilovar/meter"
)

// P1: every function terminates and never panics, for all arguments; they are not modified, and results share no memory with them.

// arguments has one of each kind that functions take.
type arguments struct {
	v, i   []float32
	power  complex128
	m, n   meter.Meter
	e      meter.Entry
	p      meter.Profile
	l      []meter.Entry
	seals  []api.Key
	b      api.Block
	key    api.Key
	c      meter.Clock
	s      api.Span
	x, y   int
	stream []byte
	text   string
}

// calls calls all functions, and returns their results.
func calls(a arguments) []any {
	var out []any
	add := func(results ...any) { out = append(out, results...) }
	var v, i [4]float32
	copy(v[:], a.v)
	copy(i[:], a.i)
	power, e := meter.Power(v, i)
	add(power, e)
	n, e := meter.Quadrant(a.power)
	add(n, e, meter.CheckMeter(a.m), meter.CheckEntry(a.e), meter.CheckProfile(a.p), meter.CheckClock(a.c))
	m, e := meter.Counted(a.m, a.v, a.i)
	add(m, e)
	n, e = meter.Difference(a.m[0], a.n[0])
	add(n, e)
	l, e := meter.Implausible(a.m, a.n, a.x, a.y)
	add(l, e)
	p, e := meter.Stored(a.p, a.e)
	add(p, e)
	r, e := meter.Read(a.p, a.s)
	add(r, e)
	n, first, e := meter.Greatest(a.p, a.x)
	add(n, first, e)
	return append(out, moreCalls(a)...)
}

func moreCalls(a arguments) []any {
	var out []any
	add := func(results ...any) { out = append(out, results...) }
	b, e := meter.Blocked(a.e)
	add(b, e)
	x, e := meter.Unblocked(a.b)
	add(x, e)
	seals, e := meter.Sealed(a.key, a.l)
	add(seals, e)
	n, e := meter.Verified(a.key, a.l, a.seals)
	add(n, e)
	s, e := meter.Pack(a.key, a.p)
	add(s, e)
	p, e := meter.Unpack(a.key, a.stream)
	add(p, e)
	n, e = meter.Time(a.c, a.x)
	add(n, e)
	c, n, e := meter.Set(a.c, a.x, a.y)
	add(c, n, e)
	c, e = meter.Slewed(a.c, a.x, a.y, a.x)
	add(c, e)
	l, e := meter.Boundaries(a.c, a.s, a.x)
	add(l, e)
	text, e := meter.Print(a.m)
	add(text, e)
	m, n, e := meter.Parse(a.text)
	add(m, n, e)
	return out
}

// visitLists visits all lists in a value that are not empty, those in lists and structures, too.
func visitLists(v reflect.Value, visit func(v reflect.Value)) {
	switch {
	case v.Kind() == reflect.Struct:
		for i := range v.NumField() {
			visitLists(v.Field(i), visit)
		}
	case v.Kind() == reflect.Slice && v.Len() > 0:
		for i := range v.Len() {
			visitLists(v.Index(i), visit)
		}
		visit(v)
	}
}

// spoil changes all elements of all lists among values.
func spoil(values ...any) {
	for _, x := range values {
		visitLists(reflect.ValueOf(x), func(v reflect.Value) {
			for i := range v.Len() {
				v.Index(i).SetZero()
			}
		})
	}
}

func anyInt(r *rand.Rand) int {
	return []int{r.Intn(3), r.Intn(20) - 1, r.Intn(5000) - 10, math.MinInt, math.MaxInt, int(r.Uint64())}[r.Intn(6)]
}

// spoiltBy returns a number, or now and then any one.
func spoiltBy(r *rand.Rand, x, often int) int {
	if r.Intn(often) > 0 {
		return x
	}
	return anyInt(r)
}

func anySamples(r *rand.Rand, n int) []float32 {
	l := randomSamples(r, n)
	if n > 0 && r.Intn(6) == 0 {
		l[r.Intn(n)] = sampleErrors[r.Intn(len(sampleErrors))].x
	}
	return l
}

func anyMeter(r *rand.Rand) meter.Meter {
	m := randomMeter(r)
	m[r.Intn(6)].Units = spoiltBy(r, 7, 10)
	m[r.Intn(6)].Rest = spoiltBy(r, 7, 10)
	return m
}

func anyEntry(r *rand.Rand, x meter.Entry) meter.Entry {
	return entry(spoiltBy(r, x.Number, 200), spoiltBy(r, x.Tick, 200), spoiltBy(r, x.Import, 200), spoiltBy(r, x.Export, 200), spoiltBy(r, x.Mark, 200))
}

func anyEntries(r *rand.Rand) []meter.Entry {
	l := randomEntries(r, r.Intn(12))
	for i := range l {
		l[i] = anyEntry(r, l[i])
	}
	return l
}

func anyClock(r *rand.Rand) meter.Clock {
	c := randomClock(r)
	return clock(spoiltBy(r, c.Since, 20), spoiltBy(r, c.Offset, 20), spoiltBy(r, c.Left, 20), spoiltBy(r, c.Every, 20))
}

func anyText(r *rand.Rand) string {
	text := value(meter.Print(randomMeter(r)))
	if r.Intn(2) > 0 {
		at := r.Intn(len(text))
		text = text[:at] + []string{"", " ", "\n", "-", "0", "\xff"}[r.Intn(6)] + text[at+r.Intn(2):]
	}
	for range r.Intn(3) * r.Intn(2) {
		text += []string{"import", " ", "\n", "1", "0", " 2", "\xff", "q5 9 1\n"}[r.Intn(8)]
	}
	return text
}

func anyStream(r *rand.Rand, key api.Key, p meter.Profile) []byte {
	s, e := meter.Pack(key, p)
	if e != api.OK || r.Intn(3) == 0 {
		return s
	}
	if r.Intn(3) == 0 {
		s[r.Intn(len(s))] = byte(r.Intn(256))
	}
	if r.Intn(3) == 0 {
		s = s[:r.Intn(len(s))]
	}
	return s
}

func anyArguments(seed int64) arguments {
	r := rand.New(rand.NewSource(seed))
	n := r.Intn(30)
	a := arguments{v: anySamples(r, n), i: anySamples(r, n), m: anyMeter(r), n: anyMeter(r), l: anyEntries(r), key: randomKey(r), c: anyClock(r), text: anyText(r)}
	a.power = []complex128{complex(float64(anyInt(r)), float64(r.Intn(3)-1)), complex(math.Inf(1), math.NaN()), complex(r.Float64(), 7), complex(float64(r.Intn(3)-1), float64(r.Intn(3)-1))}[r.Intn(4)]
	a.p = profile(spoiltBy(r, len(a.l)+1+r.Intn(3), 20), a.l...)
	a.e = anyEntry(r, randomEntry(r, r.Intn(1000000000), r.Intn(100000001)))
	if len(a.l) > 0 && r.Intn(5) > 0 {
		last, first := a.l[len(a.l)-1], a.l[0].Number
		a.e.Number, a.e.Tick = last.Number+1, last.Tick+1
		a.s = span(first+r.Intn(3), first+r.Intn(len(a.l)+1))
	}
	a.seals = value(meter.Sealed(a.key, a.l))
	if len(a.seals) > 0 && r.Intn(3) == 0 {
		a.seals[r.Intn(len(a.seals))][r.Intn(8)]++
	}
	a.b = value(meter.Blocked(a.e))
	if r.Intn(2) == 0 {
		a.b[r.Intn(16)] = byte(r.Intn(256))
	}
	if r.Intn(2) == 0 {
		a.s = span(spoiltBy(r, r.Intn(500), 10), spoiltBy(r, 500+r.Intn(500), 10))
	}
	a.x, a.y = spoiltBy(r, r.Intn(1100), 5), spoiltBy(r, r.Intn(1100), 5)
	a.stream = anyStream(r, a.key, a.p)
	return a
}

// TestAllArguments calls all functions with equal arguments, spoils results, then arguments, and compares what is left.
func TestAllArguments(t *testing.T) {
	for seed := range int64(3000) {
		a := anyArguments(seed)
		first := calls(a)
		printed := fmt.Sprint(first)
		spoil(first...)
		if fmt.Sprint(a) != fmt.Sprint(anyArguments(seed)) {
			t.Fatalf("the arguments of the seed %d are modified", seed)
		}
		second := calls(a)
		spoil(a.v, a.i, a.l, a.p, a.seals, a.stream)
		if fmt.Sprint(second) != printed {
			t.Fatalf("the results of the seed %d share memory with arguments, or depend on more than them", seed)
		}
	}
}

func TestResultsShareNoMemory(t *testing.T) {
	for seed := range int64(1000) {
		seen := map[uintptr]bool{}
		for _, x := range calls(anyArguments(seed)) {
			visitLists(reflect.ValueOf(x), func(v reflect.Value) {
				if seen[v.Pointer()] {
					t.Fatal("two lists of results share memory")
				}
				seen[v.Pointer()] = true
			})
		}
	}
}

// TestRoomBehindEntries stores two entries in one profile whose memory has room: neither result changes.
func TestRoomBehindEntries(t *testing.T) {
	for room := range 4 {
		l := append(make([]meter.Entry, 0, 8), successive(7, room)...)
		p := profile(max(room, 1), l...)
		one, two := entry(7+room, 1000, 1, 1, 1), entry(7+room, 2000, 2, 2, 2)
		first := value(meter.Stored(p, one))
		second := value(meter.Stored(p, two))
		same(t, "the last entries", all(first.Entries[len(first.Entries)-1], second.Entries[len(second.Entries)-1]), all(one, two))
		third := value(meter.Stored(first, entry(8+room, 3000, 0, 0, 0)))
		fourth := value(meter.Stored(first, entry(8+room, 4000, 0, 0, 0)))
		same(t, "the last entries of profiles of results", all(third.Entries[len(third.Entries)-1].Tick, fourth.Entries[len(fourth.Entries)-1].Tick), all(3000, 4000))
		same(t, "what is behind the entries", l[:room+1][room], meter.Entry{})
	}
}

func TestNothing(t *testing.T) {
	for _, x := range calls(arguments{}) {
		if e, ok := x.(api.Errno); ok && (e < api.OK || e > api.ErrOld) {
			t.Errorf("error %d", e)
		}
	}
}

// TestManyAndFar calls functions with lists far above their limits.
func TestManyAndFar(t *testing.T) {
	for _, n := range ints(math.MinInt, math.MaxInt) {
		wrong := entry(n, n, n, n, n)
		bad := meter.Meter{register(n, n), register(n, n)}
		far := arguments{v: repeated(nan, 100000), i: repeated(inf, 100000), power: complex(float64(n), math.Inf(-1)), m: bad, n: bad, e: wrong, p: profile(n, repeated(wrong, 100000)...), l: repeated(wrong, 100000), seals: make([]api.Key, 100000), b: api.Block{255, 255, 255, 255, 255, 255, 255, 255, 255, 255, 255, 255, 255, 255, 255, 255}, c: clock(n, n, n, n), s: span(n, -n), x: n, y: n, stream: make([]byte, 1000000), text: string(make([]byte, 1000000))}
		for _, x := range calls(far) {
			if e, ok := x.(api.Errno); ok && e == api.OK {
				t.Errorf("no error of the number %d", n)
			}
		}
	}
}

// TestLimits compares the limits with the chapter's.
func TestLimits(t *testing.T) {
	same(t, "the limits", ints(meter.Registers, meter.Quantum, meter.MaxUnits, meter.MaxRoom, meter.MaxMark, meter.MaxOffset, meter.MaxLeft, meter.MaxEvery, meter.MaxLength, meter.MaxPower, meter.MaxWide), ints(6, 1000000, 1000000, 64, 7, 1000000, 1000, 1000, 100000, 100000000, 16))
}
