package access_test

import (
	"fmt"
	"math"
	"math/rand"
	"reflect"
	"slices"
	"strconv"
	"strings"
	"testing"

	"kilovar/access"
	"kilovar/api"
)

// same compares results with the expected ones; nil and empty lists are equal.
func same(t *testing.T, what string, got, want any) {
	t.Helper()
	if g, w := fmt.Sprintf("%+v", got), fmt.Sprintf("%+v", want); g != w {
		t.Errorf("%s: got %s, want %s", what, g, w)
	}
}

// all returns all results of a call in one.
func all(results ...any) []any { return results }

// value returns a result whose error another test examines.
func value[T any](x T, _ api.Errno) T { return x }

// zeros returns the zero value of each result.
func zeros(results ...any) []any {
	var out []any
	for _, x := range results {
		out = append(out, reflect.Zero(reflect.TypeOf(x)).Interface())
	}
	return out
}

func ints(l ...int) []int { return l }

func repeated[T any](x T, n int) []T {
	return slices.Repeat([]T{x}, n)
}

// far are numbers beyond all limits.
func far() []int {
	return ints(math.MinInt, math.MinInt+1, -1<<40, 1<<40, math.MaxInt-1, math.MaxInt)
}

// outside returns numbers that are not from low to high.
func outside(low, high int) []int {
	return append(far(), low-1, high+1)
}

func wrongNames() []string {
	return []string{"", " ", "1a", "_a", "a-b", "a b", "a\n", "\xff", "\u00e4", strings.Repeat("a", 25)}
}

func object(name, owner string) access.Object {
	return access.Object{Name: name, Owner: owner}
}

// grant returns a grant of the right read of m1.
func grant(from, to string, first, end int) access.Grant {
	return access.Grant{From: from, To: to, Right: "read", Object: "m1", Days: api.Span{From: first, To: end}}
}

// other returns a grant of another right, or of another object.
func other(g access.Grant, right, object string) access.Grant {
	g.Right, g.Object = right, object
	return g
}

// bookOf returns a book with the object m1 of the office grid, and grants.
func bookOf(l ...access.Grant) access.Book {
	return access.Book{Objects: []access.Object{object("m1", "grid")}, Grants: l}
}

// shown returns the book O of the examples, with further grants.
func shown(more ...access.Grant) access.Book {
	return bookOf(append([]access.Grant{grant("grid", "shop", 10, 20), grant("shop", "desk", 15, 30), grant("grid", "desk", 18, 25)}, more...)...)
}

// names returns n names that differ.
func names(n int) []string {
	var out []string
	for i := range n {
		out = append(out, "n"+strconv.Itoa(i))
	}
	return out
}

// objects returns n objects.
func objects(n int) []access.Object {
	var out []access.Object
	for _, name := range names(n) {
		out = append(out, object(name, "grid"))
	}
	return out
}

// line returns a book of n grants, each of which is given by the office that the one before it is given to.
func line(n int) access.Book {
	b, from := bookOf(), "grid"
	for _, to := range names(n) {
		b.Grants = append(b.Grants, grant(from, to, 0, 100000))
		from = to
	}
	return b
}

// wrongBooks returns books with their errors; those with several have the first one.
func wrongBooks() map[api.Errno][]access.Book {
	nothing := make([]access.Grant, 33)
	out := map[api.Errno][]access.Book{
		api.ErrMany:     {{Objects: objects(17)}, {Objects: make([]access.Object, 17)}, {Objects: objects(17), Grants: nothing}, {Grants: nothing}, bookOf(nothing...), bookOf(line(33).Grants...), bookOf(repeated(grant("a", "a", 5, 5), 33)...)},
		api.ErrTwice:    {{Objects: []access.Object{object("m1", "a"), object("m1", "b")}}, {Objects: []access.Object{object("m1", "a"), object("m2", "a"), object("m1", "a")}, Grants: nothing}, {Objects: []access.Object{object("a", "b"), object("a", "b"), {}}}},
		api.ErrConflict: {shown(grant("a", "a", 0, 1)), shown(other(grant("a", "a", 5, 5), "read", "m2")), shown(grant("grid", "grid", 0, 1), grant("", "", 0, 1))},
		api.ErrUnknown:  {{Grants: []access.Grant{grant("a", "b", 0, 1)}}, shown(other(grant("a", "b", 0, 1), "read", "m2")), shown(other(grant("a", "b", 5, 5), "read", "m")), shown(other(grant("a", "b", 0, 1), "read", "M1"), grant("a", "a", 0, 1))},
	}
	for _, name := range wrongNames() {
		out[api.ErrName] = append(out[api.ErrName],
			access.Book{Objects: []access.Object{object(name, "a")}, Grants: nothing}, access.Book{Objects: []access.Object{object("a", name), object("a", "b")}}, access.Book{Objects: []access.Object{object("a", "b"), object("a", name)}}, access.Book{Objects: []access.Object{object("a", "b"), object(name, "b"), object("a", "b")}},
			shown(grant(name, "a", 5, 5)), shown(grant("a", name, 5, 5)), shown(grant(name, name, 0, 1)), shown(other(grant("a", "a", 0, 1), name, "m2")), shown(other(grant("a", "a", 0, 1), "read", name)), shown(grant("a", "b", 0, 1), grant(name, "b", 0, 1), grant("a", "a", 0, 1)))
	}
	for _, span := range [][2]int{{0, 0}, {5, 5}, {6, 5}, {-1, 5}, {0, 100001}, {100000, 100000}, {100000, 100001}, {-5, -1}, {math.MinInt, math.MaxInt}, {math.MaxInt, math.MinInt}, {0, math.MaxInt}, {math.MinInt, 5}} {
		g := grant("a", "b", span[0], span[1])
		out[api.ErrSpan] = append(out[api.ErrSpan], bookOf(g), shown(g), shown(g, grant("", "", 0, 1)))
	}
	return out
}

// pieces returns the pieces of the examples.
func pieces() [][]byte { return [][]byte{{1, 2}, {3}} }

// idle returns a store that has received nothing, begun one of which all pieces are missing, half one of which one is, and full one of which none is.
func idle() access.Store { return access.Store{Running: 4, Old: 2} }

func begun() access.Store {
	return access.Store{Running: 4, Old: 2, New: 5, Sum: 14, Pieces: make([][]byte, 2)}
}

func half() access.Store {
	return with(begun(), func(s *access.Store) { s.Pieces[0] = []byte{1, 2} })
}

func full() access.Store {
	return with(begun(), func(s *access.Store) { s.Pieces = pieces() })
}

// checked returns a store that is checked, and tried one that runs the new version on trial.
func checked() access.Store {
	return with(full(), func(s *access.Store) { s.Checked = true })
}

func tried() access.Store {
	return access.Store{Running: 5, Old: 4, New: 5, Sum: 14, Pieces: pieces(), Checked: true, Trial: true}
}

// with returns a store after a change.
func with(s access.Store, change func(s *access.Store)) access.Store {
	change(&s)
	return s
}

// wrongStores returns stores with their errors; those with several have the first one.
func wrongStores() map[api.Errno][]access.Store {
	many := make([][]byte, 17)
	large := [][]byte{make([]byte, 33)}
	out := map[api.Errno][]access.Store{
		api.ErrMany:  {{Pieces: many, Sum: -1}, {Pieces: repeated(make([]byte, 33), 17)}, {New: 1, Pieces: many}, with(full(), func(s *access.Store) { s.Pieces = append(many, pieces()...) })},
		api.ErrLarge: {{Pieces: large, Sum: -1}, {New: 1, Pieces: large}, with(full(), func(s *access.Store) { s.Pieces[1] = make([]byte, 33) }), with(tried(), func(s *access.Store) { s.Pieces[0] = make([]byte, 1000) })},
		api.ErrState: {
			{Sum: 1}, {Sum: 9972}, {Pieces: pieces()}, {Pieces: make([][]byte, 1)}, {Checked: true}, {Trial: true}, {Checked: true, Trial: true}, {Running: 5, Sum: 1}, {Running: 5, Pieces: pieces()}, {Running: 5, Checked: true}, {Running: 5, Trial: true},
			{New: 1}, {New: 1, Sum: 14}, {New: 1, Checked: true}, {Running: 5, New: 4, Sum: 14, Pieces: pieces()}, {Running: 5, New: 4, Sum: 14, Pieces: pieces(), Checked: true, Trial: true}, {Running: 5, New: 5, Sum: 14, Pieces: pieces()}, {Running: 5, New: 5, Sum: 14, Pieces: pieces(), Checked: true},
			with(half(), func(s *access.Store) { s.Checked = true }), with(full(), func(s *access.Store) { s.Trial = true }), with(checked(), func(s *access.Store) { s.Trial = true }), with(checked(), func(s *access.Store) { s.Pieces[1] = []byte{} }), with(checked(), func(s *access.Store) { s.Pieces = nil }), with(checked(), func(s *access.Store) { s.Trial, s.Sum = true, 13 }), with(checked(), func(s *access.Store) { s.Pieces[0], s.Sum = nil, 0 }),
			with(tried(), func(s *access.Store) { s.Checked = false }), with(tried(), func(s *access.Store) { s.Trial = false }), with(tried(), func(s *access.Store) { s.Pieces = nil }), with(tried(), func(s *access.Store) { s.Pieces[0] = nil }), with(tried(), func(s *access.Store) { s.Running = 6 }), with(tried(), func(s *access.Store) { s.New = 6 }), with(tried(), func(s *access.Store) { s.New = 0 }), with(tried(), func(s *access.Store) { s.Running, s.New = 0, 0 }),
		},
		api.ErrCheck: {with(checked(), func(s *access.Store) { s.Sum = 13 }), with(checked(), func(s *access.Store) { s.Sum = 0 }), with(tried(), func(s *access.Store) { s.Sum = 15 }), with(tried(), func(s *access.Store) { s.Pieces[1] = []byte{4} }), with(checked(), func(s *access.Store) { s.Pieces = [][]byte{{3}, {1, 2}} })},
	}
	for _, n := range outside(0, 10000) {
		out[api.ErrRange] = append(out[api.ErrRange], access.Store{Running: n, Pieces: many}, access.Store{Old: n, Pieces: large}, access.Store{New: n, Pieces: many}, with(tried(), func(s *access.Store) { s.Old = n }), with(full(), func(s *access.Store) { s.New = n }))
	}
	for _, n := range outside(0, 9972) {
		out[api.ErrRange] = append(out[api.ErrRange], access.Store{Sum: n, Checked: true}, with(checked(), func(s *access.Store) { s.Sum = n }))
	}
	return out
}

func pick(r *rand.Rand, l ...int) int { return l[r.Intn(len(l))] }

// few are the offices, rights and objects of random books.
var (
	fewOffices = [5]string{"grid", "shop", "desk", "law", "G_1"}
	fewRights  = [2]string{"read", "cut"}
	fewObjects = [2]string{"m1", "m2"}
)

// randomGrant returns a grant that is mostly one of read of m1, on some of the first 40 days.
func randomGrant(r *rand.Rand) access.Grant {
	l := r.Perm(len(fewOffices))
	from := r.Intn(30)
	g := grant(fewOffices[l[0]], fewOffices[l[1]], from, from+1+r.Intn(40-from))
	return other(g, fewRights[r.Intn(6)/5], fewObjects[r.Intn(6)/5])
}

// randomBook returns a book of two objects, with some grants.
func randomBook(r *rand.Rand, n int) access.Book {
	b := access.Book{Objects: []access.Object{object("m1", fewOffices[r.Intn(5)]), object("m2", fewOffices[r.Intn(5)])}}
	for range n {
		b.Grants = append(b.Grants, randomGrant(r))
	}
	return b
}

// randomSet returns a set of some houses.
func randomSet(r *rand.Rand, houses int) []int {
	for {
		var out []int
		for house := range houses {
			if r.Intn(2) == 0 {
				out = append(out, house)
			}
		}
		if len(out) > 0 {
			return out
		}
	}
}

func randomSets(r *rand.Rand, houses, n int) [][]int {
	var out [][]int
	for range n {
		out = append(out, randomSet(r, houses))
	}
	return out
}

// randomPieces returns pieces, of which none is missing.
func randomPieces(r *rand.Rand) [][]byte {
	out := make([][]byte, pick(r, 1, 16, 1+r.Intn(16)))
	for i := range out {
		out[i] = make([]byte, pick(r, 1, 32, 1+r.Intn(32)))
		for j := range out[i] {
			out[i][j] = byte(pick(r, 0, 255, r.Intn(256)))
		}
	}
	return out
}

// randomStore returns a store in any of its states.
func randomStore(r *rand.Rand) access.Store {
	s := access.Store{Running: pick(r, 0, r.Intn(9999), 9999), Old: pick(r, 0, r.Intn(10001), 10000)}
	p := access.Program{Version: s.Running + 1 + r.Intn(10000-s.Running), Pieces: randomPieces(r)}
	sum := value(access.ProgramSum(p))
	step := r.Intn(6)
	if step == 0 {
		return s
	}
	s.New, s.Sum, s.Pieces = p.Version, sum, p.Pieces
	switch step {
	case 1, 2:
		s.Sum = pick(r, sum, r.Intn(9973))
		for i := range s.Pieces {
			if r.Intn(3) == 0 {
				s.Pieces[i] = nil
			}
		}
	case 4:
		s.Checked = true
	case 5:
		s.Checked, s.Trial, s.Running = true, true, s.New
	}
	return s
}

func load(name string, power int) access.Load {
	return access.Load{Name: name, Power: power}
}

func randomLoads(r *rand.Rand) []access.Load {
	var out []access.Load
	for _, name := range names(r.Intn(9)) {
		out = append(out, load(name, pick(r, 0, r.Intn(10), r.Intn(10), r.Intn(1001), 1000)))
	}
	return out
}
