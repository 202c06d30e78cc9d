package access_test

import (
	"fmt"
	"math"
	"math/rand"
	"reflect"
	"testing"

	"kilovar/access"
	"kilovar/api"
)

// P1: every function terminates and never panics, for all arguments; they are not modified, and results share no memory with them.

// arguments has one of each kind that functions take.
type arguments struct {
	b                     access.Book
	office, right, object string
	day                   int
	chain                 []int
	houses, most, width   int
	asked                 [][]int
	set, uses             []int
	answers               []access.Answer
	fed                   api.Interval
	meters                []api.Interval
	p                     access.Program
	s                     access.Store
	version, pieces, sum  int
	piece                 []byte
	loads                 []access.Load
	limit, slots          int
	text                  string
}

// calls calls all functions, and returns their results.
func calls(x arguments) []any {
	out := all(access.CheckBook(x.b), access.CheckStore(x.s), access.CheckWhy(x.b, x.office, x.right, x.object, x.day, x.chain))
	add := func(results ...any) { out = append(out, results...) }
	is, e := access.May(x.b, x.office, x.right, x.object, x.day)
	add(is, e)
	chain, e := access.Why(x.b, x.office, x.right, x.object, x.day)
	add(chain, e)
	offices, e := access.Offices(x.b, x.right, x.object, x.day)
	add(offices, e)
	days, e := access.Days(x.b, x.office, x.right, x.object)
	add(days, e)
	is, e = access.Permitted(x.houses, x.width, x.asked, x.set)
	add(is, e)
	sum, e := access.Sum(x.uses, x.set)
	add(sum, e)
	k, e := access.Known(x.houses, x.most, x.answers)
	add(k, e)
	is, e = access.Hidden(x.houses, x.most, x.answers, x.width)
	add(is, e)
	b, e := access.Balance(x.fed, x.meters)
	add(b, e)
	verdict, e := access.Verdict(x.fed, x.meters)
	add(verdict, e)
	return append(out, moreCalls(x)...)
}

func moreCalls(x arguments) []any {
	var out []any
	add := func(results ...any) { out = append(out, results...) }
	sum, e := access.ProgramSum(x.p)
	add(sum, e)
	s, e := access.Begun(x.s, x.version, x.pieces, x.sum)
	add(s, e)
	s, e = access.Received(x.s, x.width, x.piece)
	add(s, e)
	s, e = access.Checked(x.s)
	add(s, e)
	s, e = access.Tried(x.s)
	add(s, e)
	s, e = access.Kept(x.s)
	add(s, e)
	s, e = access.Back(x.s)
	add(s, e)
	turns, e := access.Turns(x.loads, x.limit, x.slots)
	add(turns, e)
	text, e := access.Print(x.b)
	add(text, e)
	b, i, e := access.Parse(x.text)
	add(b, i, e)
	return out
}

// visitLists visits all lists in a value that are not empty, those in lists and structures, too.
func visitLists(v reflect.Value, visit func(v reflect.Value)) {
	switch {
	case v.Kind() == reflect.Struct:
		for i := range v.NumField() {
			visitLists(v.Field(i), visit)
		}
	case v.Kind() == reflect.Slice && v.Len() > 0:
		for i := range v.Len() {
			visitLists(v.Index(i), visit)
		}
		visit(v)
	}
}

// spoil changes all elements of all lists among values.
func spoil(values ...any) {
	for _, x := range values {
		visitLists(reflect.ValueOf(x), func(v reflect.Value) {
			for i := range v.Len() {
				v.Index(i).SetZero()
			}
		})
	}
}

// anyInt returns any number, which may be far beyond all limits.
func anyInt(r *rand.Rand) int {
	return pick(r, r.Intn(3), r.Intn(20)-1, r.Intn(5000)-10, math.MinInt, math.MaxInt, int(r.Uint64()))
}

// spoiltBy returns a number, or now and then any one.
func spoiltBy(r *rand.Rand, x, often int) int {
	if r.Intn(often) > 0 {
		return x
	}
	return anyInt(r)
}

func spoilInts(r *rand.Rand, l []int) []int {
	for i := range l {
		l[i] = spoiltBy(r, l[i], 40)
	}
	return l
}

func anyName(r *rand.Rand, names ...string) string {
	if r.Intn(20) == 0 {
		return append(wrongNames(), "m3", "law")[r.Intn(12)]
	}
	return names[r.Intn(len(names))]
}

// anyBook returns a book of which now and then a name or a day is any one.
func anyBook(r *rand.Rand) access.Book {
	b := randomBook(r, r.Intn(12))
	if r.Intn(20) == 0 {
		b.Objects[1].Name = anyName(r, "m1")
	}
	for i := range b.Grants {
		g := &b.Grants[i]
		g.Days.From, g.Days.To = spoiltBy(r, g.Days.From, 200), spoiltBy(r, g.Days.To, 200)
		if r.Intn(50) == 0 {
			g.From, g.Right = anyName(r, g.From), anyName(r, g.Right)
		}
	}
	return b
}

func anyStore(r *rand.Rand) access.Store {
	s := randomStore(r)
	s.Running, s.Old, s.New, s.Sum = spoiltBy(r, s.Running, 30), spoiltBy(r, s.Old, 30), spoiltBy(r, s.New, 30), spoiltBy(r, s.Sum, 30)
	s.Checked, s.Trial = s.Checked != (r.Intn(20) == 0), s.Trial != (r.Intn(20) == 0)
	if r.Intn(20) == 0 {
		s.Pieces = append(s.Pieces, make([]byte, r.Intn(50)))
	}
	return s
}

func anyInterval(r *rand.Rand) api.Interval {
	x := r.Intn(100)
	return to(spoiltBy(r, x, 40), spoiltBy(r, x+r.Intn(100), 40))
}

func anyText(r *rand.Rand) string {
	text := value(access.Print(randomBook(r, r.Intn(12))))
	if r.Intn(2) > 0 {
		at := r.Intn(len(text))
		text = text[:at] + []string{"", " ", "\n", "-", "0", "\xff"}[r.Intn(6)] + text[at+r.Intn(2):]
	}
	for range r.Intn(3) * r.Intn(2) {
		text += []string{"object", " ", "\n", "1", "0", " 2", "\xff", "grant a b read m1 0 1\n", head}[r.Intn(9)]
	}
	return text
}

func anyArguments(seed int64) arguments {
	r := rand.New(rand.NewSource(seed))
	x := arguments{b: anyBook(r), office: anyName(r, fewOffices[:]...), right: anyName(r, "read", "read", "cut"), object: anyName(r, "m1", "m1", "m2"), day: spoiltBy(r, r.Intn(40), 10), s: anyStore(r), text: anyText(r)}
	x.chain, _ = access.Why(x.b, x.office, x.right, x.object, x.day)
	x.chain = spoilInts(r, x.chain)
	x.houses, x.most, x.width = spoiltBy(r, 1+r.Intn(5), 10), spoiltBy(r, 1+r.Intn(3), 10), spoiltBy(r, r.Intn(4), 10)
	x.asked, x.set = randomSets(r, 1+r.Intn(5), r.Intn(4)), spoilInts(r, randomSet(r, 1+r.Intn(5)))
	x.answers, x.uses = randomAnswers(r, 1+r.Intn(5), 3, r.Intn(4))
	for i := range x.answers {
		x.answers[i].Sum = spoiltBy(r, x.answers[i].Sum, 20)
	}
	x.uses = spoilInts(r, x.uses)
	x.fed = anyInterval(r)
	for range r.Intn(5) {
		x.meters = append(x.meters, anyInterval(r))
	}
	x.p = program(spoiltBy(r, 1+r.Intn(10000), 10), randomPieces(r)...)
	x.version, x.pieces, x.sum = spoiltBy(r, 1+r.Intn(10000), 10), spoiltBy(r, 1+r.Intn(16), 10), spoiltBy(r, r.Intn(9973), 10)
	x.piece = repeated(byte(1+r.Intn(255)), pick(r, 0, 1, 32, 33, r.Intn(33)))
	x.loads, x.limit, x.slots = randomLoads(r), spoiltBy(r, r.Intn(2000), 10), spoiltBy(r, r.Intn(20), 10)
	return x
}

// TestAllArguments calls all functions with equal arguments, spoils results, then arguments, and compares what is left.
func TestAllArguments(t *testing.T) {
	for seed := range int64(3000) {
		x := anyArguments(seed)
		first := calls(x)
		printed := fmt.Sprint(first)
		spoil(first...)
		if fmt.Sprint(x) != fmt.Sprint(anyArguments(seed)) {
			t.Fatalf("the arguments of the seed %d are modified", seed)
		}
		second := calls(x)
		spoil(x.b, x.chain, x.asked, x.set, x.uses, x.answers, x.meters, x.p, x.s, x.piece, x.loads)
		if fmt.Sprint(second) != printed {
			t.Fatalf("the results of the seed %d share memory with arguments, or depend on more than them", seed)
		}
	}
}

func TestResultsShareNoMemory(t *testing.T) {
	for seed := range int64(1000) {
		seen := map[uintptr]bool{}
		for _, x := range calls(anyArguments(seed)) {
			visitLists(reflect.ValueOf(x), func(v reflect.Value) {
				if seen[v.Pointer()] {
					t.Fatal("two lists of results share memory")
				}
				seen[v.Pointer()] = true
			})
		}
	}
}

// TestRoomBehindLists changes pieces that have room, or are parts of one list: no result changes them, or another one.
func TestRoomBehindLists(t *testing.T) {
	bytes := []byte{1, 2, 3, 4, 5, 6}
	s := begun()
	s.Pieces = append(make([][]byte, 0, 8), bytes[:2], nil)
	one, two := value(access.Received(s, 1, bytes[2:3])), value(access.Received(s, 1, bytes[3:4]))
	same(t, "two stores", all(one.Pieces, two.Pieces, s.Pieces), all([][]byte{{1, 2}, {3}}, [][]byte{{1, 2}, {4}}, [][]byte{{1, 2}, {}}))
	one.Pieces[0] = append(one.Pieces[0][:1], 9, 9)
	same(t, "another store, and the bytes", all(two.Pieces, s.Pieces, bytes), all([][]byte{{1, 2}, {4}}, [][]byte{{1, 2}, {}}, []byte{1, 2, 3, 4, 5, 6}))
	b := shown()
	first := value(access.Why(b, "desk", "read", "m1", 16))
	_ = append(first[:1], 7)
	same(t, "Why once more", value(access.Why(b, "desk", "read", "m1", 16)), ints(0, 1))
}

// TestNothing has no arguments that are valid but for a book and a store of zeros.
func TestNothing(t *testing.T) {
	for _, x := range calls(arguments{}) {
		if e, ok := x.(api.Errno); ok && (e < api.OK || e > api.ErrOld) {
			t.Errorf("error %d", e)
		}
	}
	same(t, "checks of zeros", calls(arguments{})[:3], all(api.OK, api.OK, api.ErrName))
}

// TestManyAndFar calls functions with lists far above their limits, and with numbers beyond all of them.
func TestManyAndFar(t *testing.T) {
	for _, n := range far() {
		many := arguments{
			b: bookOf(repeated(grant("a", "b", n, n), 100000)...), office: "grid", right: "read", object: "m1", day: n, chain: repeated(n, 100000),
			houses: n, most: n, width: n, asked: repeated(ints(n), 100000), set: repeated(n, 100000), uses: repeated(n, 100000), answers: repeated(answer(n, n), 100000),
			fed: to(n, n), meters: repeated(to(n, n), 100000), p: program(n, repeated(make([]byte, 1000000), 100000)...), version: n, pieces: n, sum: n, piece: make([]byte, 1000000),
			s: access.Store{Running: n, Old: n, New: n, Sum: n, Pieces: repeated(make([]byte, 1000000), 100000), Checked: true}, loads: repeated(load("a", n), 100000), limit: n, slots: n, text: string(make([]byte, 1000000)),
		}
		few := many
		few.b, few.chain, few.asked, few.set, few.uses, few.answers = bookOf(many.b.Grants[0]), ints(n), many.asked[:1], ints(n), ints(n), many.answers[:1]
		few.meters, few.p.Pieces, few.s.Pieces, few.loads = many.meters[:1], many.p.Pieces[:1], many.s.Pieces[:1], many.loads[:1]
		large := few
		large.s = access.Store{New: 1, Pieces: many.s.Pieces, Checked: true}
		for _, x := range []arguments{many, few, large} {
			for _, result := range calls(x) {
				if e, ok := result.(api.Errno); ok && e == api.OK {
					t.Errorf("no error of the number %d", n)
				}
			}
		}
	}
}

// TestLimits compares the limits with the chapter's.
func TestLimits(t *testing.T) {
	same(t, "the limits", ints(access.MaxObjects, access.MaxGrants, access.MaxHouses, access.MaxUse, access.MaxAnswers, access.MaxEnergy, access.MaxVersion, access.MaxPieces, access.MaxPiece, access.MaxSum, access.MaxPower, access.MaxCap, access.MaxLoads, access.MaxSlots),
		ints(16, 32, 5, 7, 16, 1000000000, 10000, 16, 32, 9972, 1000, 8000, 8, 64))
}
