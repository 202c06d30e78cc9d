package code_test

import (
	"fmt"
	"math"
	"math/rand"
	"reflect"
	"testing"

	"kilovar/api"
	"kilovar/code"
)

// P1: every function terminates and never panics, for all arguments; they are not modified, and results share no memory with them.

// arguments has one of each kind that functions take.
type arguments struct {
	c         code.Code
	a, b      []int
	message   []int
	erased    []int
	decisions []code.Decision
	rows      [][]int
	x, y, z   int
	told      bool
	bytes     []byte
	text      string
}

// calls calls all functions, and returns their results.
func calls(a arguments) []any {
	var out []any
	add := func(results ...any) { out = append(out, results...) }
	add(code.CheckCode(a.c), code.CheckList(a.c, a.a))
	l, e := code.Syndromes(a.c, a.a)
	add(l, e)
	is, e := code.IsWord(a.c, a.a)
	add(is, e)
	l, e = code.Encode(a.c, a.message)
	add(l, e)
	l, e = code.Message(a.c, a.b)
	add(l, e)
	n, e := code.Distance(a.a, a.b)
	add(n, e)
	l, places, e := code.Decode(a.c, a.a, a.erased)
	add(l, places, e)
	l, n, e = code.Nearest(a.c, a.decisions)
	add(l, n, e)
	n, e = code.Second(a.c, a.decisions)
	add(n, e)
	n, e = code.Cost(a.c, a.decisions, a.b)
	add(n, e)
	return append(out, moreCalls(a)...)
}

func moreCalls(a arguments) []any {
	var out []any
	add := func(results ...any) { out = append(out, results...) }
	l, e := code.Spread(a.rows)
	add(l, e)
	rows, e := code.Gathered(a.a, a.x)
	add(rows, e)
	n, e := code.Burst(a.x, a.y, a.z)
	add(n, e)
	is, e := code.Survives(a.c, a.x, a.y, a.told)
	add(is, e)
	rows, e = code.Repeated(a.a, a.x)
	add(rows, e)
	l, erased, e := code.Voted(a.rows)
	add(l, erased, e)
	l, e = code.Nibbles(a.bytes)
	add(l, e)
	b, e := code.Packed(a.a)
	add(b, e)
	text, e := code.Print(a.c, a.a)
	add(text, e)
	c, l, e := code.Parse(a.text)
	add(c, l, e)
	return out
}

// visitLists visits all lists in a value that are not empty, those in lists, too.
func visitLists(v reflect.Value, visit func(v reflect.Value)) {
	if v.Kind() != reflect.Slice || v.Len() == 0 {
		return
	}
	for i := range v.Len() {
		visitLists(v.Index(i), visit)
	}
	visit(v)
}

// spoil changes all elements of all lists among values.
func spoil(values ...any) {
	for _, x := range values {
		visitLists(reflect.ValueOf(x), func(v reflect.Value) {
			for i := range v.Len() {
				v.Index(i).SetZero()
			}
		})
	}
}

func anyInt(r *rand.Rand) int {
	return []int{r.Intn(3), r.Intn(20) - 1, r.Intn(2000) - 10, math.MinInt, math.MaxInt, int(r.Uint64())}[r.Intn(6)]
}

// anyCount returns a number that often is one of rows, symbols or times.
func anyCount(r *rand.Rand) int {
	if r.Intn(5) > 0 {
		return 1 + r.Intn(4)
	}
	return anyInt(r)
}

func anySymbols(r *rand.Rand, n int) []int {
	if r.Intn(6) > 0 {
		return randomSymbols(r, n)
	}
	var out []int
	for range r.Intn(2 * n) {
		out = append(out, anyInt(r))
	}
	return out
}

func anyCode(r *rand.Rand) code.Code {
	if r.Intn(6) == 0 {
		return of(anyInt(r), anyInt(r))
	}
	codes := allCodes(1 + r.Intn(15))
	return codes[r.Intn(len(codes))]
}

func anyTrust(r *rand.Rand) float32 {
	if r.Intn(20) > 0 {
		return float32(r.Intn(100)) / 16
	}
	return []float32{-1, float32(math.NaN()), float32(math.Inf(1)), 1.0 / 32, 2000, float32(math.Copysign(0, -1))}[r.Intn(6)]
}

func anyText(r *rand.Rand, c code.Code, l []int) string {
	text := ""
	if printed, e := code.Print(c, l); e == api.OK && r.Intn(4) > 0 {
		at := r.Intn(len(printed))
		text = printed[:at] + []string{"", " ", "\n", "-", "0", "\xff"}[r.Intn(6)] + printed[at+r.Intn(2):]
	}
	for range r.Intn(3) * r.Intn(2) {
		text += []string{"word", " ", "\n", "1", "0", " 2", "\xff", "word 2 1 3 4\n"}[r.Intn(8)]
	}
	return text
}

func anyArguments(seed int64) arguments {
	r := rand.New(rand.NewSource(seed))
	a := arguments{c: anyCode(r), x: anyCount(r), y: anyCount(r), z: anyCount(r), told: r.Intn(2) == 0}
	length, checks := 4, 2
	if code.CheckCode(a.c) == api.OK {
		length, checks = a.c.Length, a.c.Checks
		a.b = spoilt(r, randomWord(r, a.c), r.Perm(length)[:r.Intn(2)*r.Intn(2)]...)
	}
	a.a, a.message, a.erased = anySymbols(r, length), anySymbols(r, length-checks), r.Perm(length)[:r.Intn(checks+1)]
	if r.Intn(3) == 0 && len(a.b) > 0 {
		a.a = spoilt(r, a.b, r.Intn(length))
	}
	if r.Intn(8) == 0 {
		a.erased = anySymbols(r, length)
	}
	for _, x := range a.a {
		a.decisions = append(a.decisions, code.Decision{Symbol: x, Trust: anyTrust(r)})
	}
	for range r.Intn(17) {
		a.rows = append(a.rows, randomSymbols(r, length))
	}
	for range r.Intn(5) * r.Intn(2) * r.Intn(2) {
		a.rows = append(a.rows, anySymbols(r, length))
	}
	for range r.Intn(140) {
		a.bytes = append(a.bytes, byte(r.Intn(256)))
	}
	a.text = anyText(r, a.c, a.a)
	return a
}

// TestAllArguments calls all functions with equal arguments, spoils results, then arguments, and compares what is left.
func TestAllArguments(t *testing.T) {
	for seed := range int64(1500) {
		a := anyArguments(seed)
		first := calls(a)
		printed := fmt.Sprint(first)
		spoil(first...)
		if fmt.Sprint(a) != fmt.Sprint(anyArguments(seed)) {
			t.Fatalf("the arguments of the seed %d are modified", seed)
		}
		second := calls(a)
		spoil(a.a, a.b, a.message, a.erased, a.decisions, a.rows, a.bytes)
		if fmt.Sprint(second) != printed {
			t.Fatalf("the results of the seed %d share memory with arguments, or depend on more than them", seed)
		}
	}
}

func TestResultsShareNoMemory(t *testing.T) {
	for seed := range int64(500) {
		seen := map[uintptr]bool{}
		for _, x := range calls(anyArguments(seed)) {
			visitLists(reflect.ValueOf(x), func(v reflect.Value) {
				if seen[v.Pointer()] {
					t.Fatal("two lists of results share memory")
				}
				seen[v.Pointer()] = true
			})
		}
	}
}

// TestRowsShareNoMemory appends to each row of a result: no other row changes.
func TestRowsShareNoMemory(t *testing.T) {
	for _, rows := range [][][]int{value(code.Gathered(ints(1, 2, 3, 4, 5, 6), 3)), value(code.Repeated(ints(1, 2), 3))} {
		before := fmt.Sprint(rows)
		for _, row := range rows {
			_ = append(row, 9)
		}
		same(t, "rows", fmt.Sprint(rows), before)
	}
}

func TestNothing(t *testing.T) {
	for _, x := range calls(arguments{}) {
		if e, ok := x.(api.Errno); ok && (e < api.OK || e > api.ErrOld) {
			t.Errorf("error %d", e)
		}
	}
}

// TestManyAndFar calls functions with lists far above their limits.
func TestManyAndFar(t *testing.T) {
	far := arguments{c: of(math.MaxInt, math.MaxInt), a: make([]int, 100000), b: repeated(math.MinInt, 1000), message: make([]int, 100000), erased: make([]int, 100000), decisions: make([]code.Decision, 100000), rows: make([][]int, 100000), x: math.MinInt, y: math.MinInt, z: math.MinInt, bytes: make([]byte, 100000), text: string(make([]byte, 100000))}
	for _, c := range []code.Code{far.c, of(math.MinInt, math.MinInt), of(math.MinInt, math.MaxInt), small()} {
		far.c = c
		for _, x := range calls(far) {
			if e, ok := x.(api.Errno); ok && e == api.OK && code.CheckCode(c) != api.OK {
				t.Errorf("no error of the code %v", c)
			}
		}
	}
}

// TestLimits compares the limits with the chapter's.
func TestLimits(t *testing.T) {
	same(t, "the limits", ints(code.Field, code.MaxLength, code.MaxChecks, code.MaxWords, code.MaxVotes, code.MaxRows, code.MaxBytes), ints(17, 16, 8, 289, 15, 16, 128))
}
