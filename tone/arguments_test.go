package tone_test

import (
	"fmt"
	"math"
	"math/rand"
	"reflect"
	"strings"
	"testing"

	"kilovar/api"
	"kilovar/tone"
)

// P1: every function terminates and never panics, for all arguments; they are not modified, and results share no memory with them.

// arguments has one of each kind that functions take.
type arguments struct {
	m          tone.Mains
	t          tone.Tones
	s          tone.Sender
	r          tone.Receiver
	x, y, z    int
	bits       []int
	data       []bool
	lists      [][]int
	word, text string
}

// calls calls all functions, and returns their results.
func calls(a arguments) []any {
	var out []any
	add := func(results ...any) { out = append(out, results...) }
	add(tone.CheckMains(a.m), tone.CheckTones(a.t), tone.CheckSender(a.s), tone.CheckReceiver(a.r))
	l, e := tone.Path(a.m, a.x, a.y)
	add(l, e)
	g, e := tone.Gain(a.m, a.x, a.y, a.z)
	add(g, e)
	i, e := tone.Enclosed(a.m, a.x, a.y, a.z)
	add(i, e)
	l, e = tone.Ranked(a.m, a.x, a.y)
	add(l, e)
	m, e := tone.Switched(a.m, a.x, a.word)
	add(m, e)
	n, e := tone.Power(a.t, a.x, a.y, a.z)
	add(n, e)
	l, e = tone.Carries(a.t, a.x)
	add(l, e)
	l, e = tone.Robust(a.t)
	add(l, e)
	n, e = tone.CheckMap(a.t, a.x, a.bits)
	add(n, e)
	l, n, e = tone.Best(a.t, a.x, a.y)
	add(l, n, e)
	n, e = tone.Bound(a.t, a.x, a.y, a.z)
	add(n, e)
	return append(out, moreCalls(a)...)
}

func moreCalls(a arguments) []any {
	var out []any
	add := func(results ...any) { out = append(out, results...) }
	lists, e := tone.Loaded(a.bits, a.data)
	add(lists, e)
	data, e := tone.Unloaded(a.bits, a.lists, a.x)
	add(data, e)
	l, e := tone.Voted(a.lists)
	add(l, e)
	s, e := tone.Proposed(a.s, a.bits)
	add(s, e)
	r, n, e := tone.Heard(a.r, a.x, a.bits)
	add(r, n, e)
	s, e = tone.Confirmed(a.s, a.x)
	add(s, e)
	r, l, e = tone.Taken(a.r, a.x)
	add(r, l, e)
	text, e := tone.Print(a.m)
	add(text, e)
	m, n, e := tone.Parse(a.text)
	add(m, n, e)
	return out
}

// lists visits all lists in a value that are not empty, those in lists, too.
func lists(v reflect.Value, visit func(v reflect.Value)) {
	switch v.Kind() {
	case reflect.Struct:
		for i := range v.NumField() {
			lists(v.Field(i), visit)
		}
	case reflect.Slice:
		for i := range v.Len() {
			lists(v.Index(i), visit)
		}
		if v.Len() > 0 {
			visit(v)
		}
	}
}

// spoil changes all elements of all lists among values.
func spoil(values ...any) {
	for _, x := range values {
		lists(reflect.ValueOf(x), func(v reflect.Value) {
			for i := range v.Len() {
				v.Index(i).SetZero()
			}
		})
	}
}

func anyInt(r *rand.Rand) int {
	return []int{r.Intn(3), r.Intn(10) - 1, r.Intn(2000) - 10, math.MinInt, math.MaxInt, int(r.Uint64())}[r.Intn(6)]
}

// anyIndex returns a number that often is an index.
func anyIndex(r *rand.Rand) int {
	if r.Intn(5) > 0 {
		return r.Intn(3)
	}
	return anyInt(r)
}

func anyInts(r *rand.Rand, n int) []int {
	var out []int
	for range n {
		out = append(out, anyInt(r))
	}
	return out
}

func anyBits(r *rand.Rand, n int) []int {
	if r.Intn(5) == 0 {
		return anyInts(r, r.Intn(10))
	}
	return randomBits(r, n)
}

func anyGauss(r *rand.Rand, n int) []api.Gauss {
	var out []api.Gauss
	for range n {
		out = append(out, to(anyInt(r), anyInt(r)))
	}
	return out
}

func anyWord(r *rand.Rand) string {
	return []string{"", "on", "off", "may", "a", "\xff", " ", "\n", strings.Repeat("x", 30)}[r.Intn(9)]
}

func anyMains(r *rand.Rand) tone.Mains {
	if r.Intn(3) > 0 {
		return randomMains(r)
	}
	m := tone.Mains{Carriers: anyInt(r), Cross: anyGauss(r, r.Intn(3))}
	for range r.Intn(20) {
		m.Nodes = append(m.Nodes, tone.Node{Name: anyWord(r), Up: anyInt(r), Phase: anyInt(r), Factors: anyGauss(r, r.Intn(3))})
		m.Loads = append(m.Loads, tone.Load{Node: anyInt(r), State: anyWord(r), Factors: anyGauss(r, r.Intn(3))})
	}
	return m
}

func anyTones(r *rand.Rand) tone.Tones {
	if r.Intn(3) > 0 {
		return randomTones(r, 1+r.Intn(3))
	}
	x := tone.Tones{Signal: anyInts(r, r.Intn(4)), Margin: anyInt(r), Mask: anyInt(r), Notches: anyInts(r, r.Intn(3))}
	for range r.Intn(4) {
		x.Noise = append(x.Noise, anyInts(r, r.Intn(4)))
	}
	return x
}

func anyText(r *rand.Rand) string {
	text := ""
	if m := randomMains(r); r.Intn(2) == 0 {
		text = value(tone.Print(m))
		at := r.Intn(len(text))
		text = text[:at] + []string{"", " ", "\n", "-", "0", "\xff"}[r.Intn(6)] + text[at+r.Intn(2):]
	}
	for range r.Intn(4) {
		text += []string{"mains", "node", "load", " ", "\n", "1", "0", "on", "\xff", "node a 0 1 1 1\n", "load 0 on 1 1\n"}[r.Intn(11)]
	}
	return text
}

func anyArguments(seed int64) arguments {
	r := rand.New(rand.NewSource(seed))
	a := arguments{m: anyMains(r), t: anyTones(r), x: anyIndex(r), y: anyIndex(r), z: anyIndex(r), word: anyWord(r), text: anyText(r)}
	carriers := 1 + r.Intn(3)
	a.bits = anyBits(r, carriers)
	a.s = tone.Sender{Number: anyIndex(r), Bits: anyBits(r, carriers)}
	a.r = tone.Receiver{Number: anyIndex(r), Bits: anyBits(r, carriers)}
	if r.Intn(2) == 0 {
		a.s.Next, a.r.Next = anyBits(r, carriers), a.bits
	}
	a.data = randomData(r, r.Intn(9))
	for range r.Intn(9) {
		var l []int
		for range carriers {
			l = append(l, r.Intn(3)-r.Intn(2))
		}
		if r.Intn(20) == 0 {
			l = anyInts(r, r.Intn(4))
		}
		a.lists = append(a.lists, l)
	}
	return a
}

// TestAllArguments calls all functions with equal arguments, spoils results, then arguments, and compares what is left.
func TestAllArguments(t *testing.T) {
	for seed := range int64(2000) {
		a := anyArguments(seed)
		first := calls(a)
		printed := fmt.Sprint(first)
		spoil(first...)
		if fmt.Sprint(a) != fmt.Sprint(anyArguments(seed)) {
			t.Fatalf("the arguments of the seed %d are modified", seed)
		}
		second := calls(a)
		spoil(a.m, a.t, a.s, a.r, a.bits, a.data, a.lists)
		if fmt.Sprint(second) != printed {
			t.Fatalf("the results of the seed %d share memory with arguments, or depend on more than them", seed)
		}
	}
}

func TestResultsShareNoMemory(t *testing.T) {
	for seed := range int64(500) {
		seen := map[uintptr]bool{}
		for _, x := range calls(anyArguments(seed)) {
			lists(reflect.ValueOf(x), func(v reflect.Value) {
				if seen[v.Pointer()] {
					t.Fatal("two lists of results share memory")
				}
				seen[v.Pointer()] = true
			})
		}
	}
}

func TestNothing(t *testing.T) {
	for _, x := range calls(arguments{}) {
		if e, ok := x.(api.Errno); ok && (e < api.OK || e > api.ErrOld) {
			t.Errorf("error %d", e)
		}
	}
}

// TestNilAndEmpty calls functions with empty lists in place of nil.
func TestNilAndEmpty(t *testing.T) {
	m := street("on")
	m.Nodes[0].Factors = factors()
	m.Loads = []tone.Load{}
	text, e := tone.Print(m)
	same(t, "Print", all(text, e), all("mains 1 0 1\nnode t 0 0\nnode a 0 1 1 1\nnode b 1 1 2 0\nnode c 0 2 1 -1\n", api.OK))
	x := line()
	x.Notches = ints()
	l, e := tone.Carries(x, 0)
	same(t, "Carries", all(l, e), all(ints(6, 4, 0), api.OK))
	levels, e := tone.Loaded(ints(1), []bool{})
	same(t, "Loaded", all(levels, e), all(ints(), api.OK))
	s, e := tone.Proposed(sender(4, ints(1), ints()), ints(2))
	same(t, "Proposed", all(s, e), all(sender(4, ints(1), ints(2)), api.OK))
	s, e = tone.Confirmed(sender(4, ints(1), ints()), 5)
	same(t, "Confirmed", all(s, e), all(tone.Sender{}, api.ErrNone))
	r, n, e := tone.Heard(receiver(4, ints(1), ints()), 5, ints(2))
	same(t, "Heard", all(r, n, e), all(receiver(4, ints(1), ints(2)), 5, api.OK))
	r, l, e = tone.Taken(receiver(4, ints(1), ints()), 5)
	same(t, "Taken", all(r, l, e), all(tone.Receiver{}, ints(), api.ErrNone))
}

// TestLimits compares the limits with the chapter's.
func TestLimits(t *testing.T) {
	same(t, "the limits",
		ints(tone.MaxCarriers, tone.MaxNodes, tone.MaxLoads, tone.MaxFactor, tone.MaxFactors, tone.MaxSignal, tone.MaxNoise, tone.MaxMargin, tone.MaxMask, tone.MaxParts, tone.MaxBits, tone.MaxBudget, tone.MaxPrice, tone.MaxData, tone.MaxCopies, tone.MaxProposal),
		ints(8, 16, 16, 2, 12, 1000000000, 1000000, 100, 1000000, 8, 6, 10000000, 100000, 1024, 15, 1000000))
}
