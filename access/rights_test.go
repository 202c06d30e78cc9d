package access_test

import (
	"math/rand"
	"slices"
	"strings"
	"testing"

	"kilovar/access"
	"kilovar/api"
)

// P9.1

func TestCheckBook(t *testing.T) {
	long := strings.Repeat("a", 24)
	for _, b := range []access.Book{
		shown(), {}, bookOf(), {Objects: objects(16)}, line(32), {Objects: objects(16), Grants: repeated(other(grant("a", "b", 0, 1), "read", "n15"), 32)},
		shown(shown().Grants...), shown(grant("a", "b", 0, 100000)), shown(grant("a", "b", 99999, 100000)), shown(grant("a", "grid", 0, 1)), shown(other(grant(long, "A", 0, 1), long, "m1")),
		{Objects: []access.Object{object("m1", "m1"), object("M1", "m1")}, Grants: []access.Grant{other(grant("m1", "M1", 0, 1), "m1", "m1")}}, // an office, a right and an object may have the same name
	} {
		same(t, "CheckBook", all(b, access.CheckBook(b)), all(b, api.OK))
	}
	for e, l := range wrongBooks() {
		for _, b := range l {
			same(t, "CheckBook", all(b, access.CheckBook(b)), all(b, e))
		}
	}
}

// TestWrongBooks gives books with errors, and further arguments with errors, to all functions that take a book.
func TestWrongBooks(t *testing.T) {
	for e, l := range wrongBooks() {
		for _, b := range l {
			check := func(what string, results ...any) {
				t.Helper()
				same(t, what, all(b, results), all(b, append(zeros(results[:len(results)-1]...), e)))
			}
			for _, name := range []string{"", "m1"} {
				may, f := access.May(b, name, name, name, -1)
				check("May", may, f)
				chain, f := access.Why(b, name, name, name, -1)
				check("Why", chain, f)
				check("CheckWhy", access.CheckWhy(b, name, name, name, -1, make([]int, 33)))
				offices, f := access.Offices(b, name, name, -1)
				check("Offices", offices, f)
				days, f := access.Days(b, name, name, name)
				check("Days", days, f)
			}
			s, f := access.Print(b)
			check("Print", s, f)
		}
	}
}

// checkQuestion asks all functions of rights, which refuse a question.
func checkQuestion(t *testing.T, office, right, object string, day int, want api.Errno) {
	t.Helper()
	b := shown()
	may, e := access.May(b, office, right, object, day)
	same(t, "May", all(may, e), all(false, want))
	chain, e := access.Why(b, office, right, object, day)
	same(t, "Why", all(chain, e), all(ints(), want))
	same(t, "CheckWhy", access.CheckWhy(b, office, right, object, day, make([]int, 33)), want)
	if !slices.Contains(wrongNames(), office) {
		offices, e := access.Offices(b, right, object, day)
		same(t, "Offices", all(offices, e), all(ints(), want))
	}
	if want != api.ErrRange {
		days, e := access.Days(b, office, right, object)
		same(t, "Days", all(days, e), all(ints(), want))
	}
}

func TestWrongQuestions(t *testing.T) {
	for _, name := range wrongNames() {
		checkQuestion(t, name, "read", "m2", -1, api.ErrName)
		checkQuestion(t, "desk", name, "m2", -1, api.ErrName)
		checkQuestion(t, "desk", "read", name, -1, api.ErrName)
	}
	for _, object := range []string{"m2", "M1", "m", "grid", "m11"} {
		checkQuestion(t, "desk", "read", object, -1, api.ErrUnknown)
		checkQuestion(t, "grid", "read", object, 16, api.ErrUnknown)
	}
	for _, day := range outside(0, 100000) {
		checkQuestion(t, "desk", "read", "m1", day, api.ErrRange)
		checkQuestion(t, "grid", "cut", "m1", day, api.ErrRange)
		checkQuestion(t, "nobody", "read", "m1", day, api.ErrRange)
	}
}

// detours returns a book with chains that come back to an office.
func detours() access.Book {
	return bookOf(grant("grid", "a", 0, 9), grant("a", "b", 0, 9), grant("b", "a", 0, 9), grant("a", "grid", 0, 9), grant("grid", "c", 0, 5), grant("a", "c", 0, 9))
}

func TestMayAndWhy(t *testing.T) {
	whole := ints()
	for i := range 32 {
		whole = append(whole, i)
	}
	mixed := bookOf(other(grant("grid", "a", 0, 9), "cut", "m1"), grant("a", "b", 0, 9), grant("grid", "b", 4, 9), other(grant("grid", "b", 0, 9), "readx", "m1"))
	mixed.Objects = append(mixed.Objects, object("m2", "a"))
	mixed.Grants = append(mixed.Grants, other(grant("a", "c", 0, 9), "read", "m2"))
	fork := bookOf(grant("grid", "a", 0, 9), grant("a", "b", 0, 9), grant("b", "c", 0, 9), grant("c", "d", 0, 9), grant("c", "e", 0, 9), grant("d", "f", 0, 9))
	for _, x := range []struct {
		b              access.Book
		office, object string
		day            int
		chain          []int // nil: the office may not
	}{
		{shown(), "desk", "m1", 16, ints(0, 1)}, {shown(), "desk", "m1", 19, ints(2)}, {shown(), "desk", "m1", 26, nil}, // as in the examples
		{shown(), "desk", "m1", 14, nil}, {shown(), "desk", "m1", 15, ints(0, 1)}, {shown(), "desk", "m1", 17, ints(0, 1)}, {shown(), "desk", "m1", 18, ints(2)}, {shown(), "desk", "m1", 24, ints(2)}, {shown(), "desk", "m1", 25, nil},
		{shown(), "shop", "m1", 9, nil}, {shown(), "shop", "m1", 10, ints(0)}, {shown(), "shop", "m1", 19, ints(0)}, {shown(), "shop", "m1", 20, nil}, {shown(), "nobody", "m1", 16, nil}, {shown(), "Desk", "m1", 16, nil}, {shown(), "m1", "m1", 16, nil},
		{shown(), "grid", "m1", 0, []int{}}, {shown(), "grid", "m1", 100000, []int{}}, {line(32), "n31", "m1", 7, whole}, {line(32), "n31", "m1", 99999, whole}, {line(32), "n31", "m1", 100000, nil}, {line(32), "n0", "m1", 0, ints(0)},
		{detours(), "grid", "m1", 3, []int{}}, {detours(), "b", "m1", 3, ints(0, 1)}, {detours(), "c", "m1", 3, ints(4)}, {detours(), "c", "m1", 5, ints(0, 5)},
		{mixed, "a", "m1", 3, nil}, {mixed, "b", "m1", 3, nil}, {mixed, "b", "m1", 5, ints(2)}, {mixed, "a", "m2", 3, []int{}}, {mixed, "c", "m2", 3, ints(4)}, {mixed, "c", "m1", 3, nil}, {mixed, "grid", "m2", 3, nil},
		{shown(grant("grid", "city", 0, 99), grant("shop", "lab", 0, 99), grant("city", "lab", 0, 99)), "lab", "m1", 16, ints(0, 4)},
		{bookOf(grant("b", "c", 0, 9), grant("a", "c", 0, 9), grant("grid", "a", 0, 9), grant("grid", "b", 0, 9)), "c", "m1", 3, ints(2, 1)}, // 2, 1 comes before 3, 0
		{bookOf(grant("grid", "a", 0, 9), grant("grid", "a", 0, 9), grant("a", "b", 0, 9), grant("a", "b", 0, 9)), "b", "m1", 3, ints(0, 2)},
		{fork, "d", "m1", 3, ints(0, 1, 2, 3)}, {fork, "e", "m1", 3, ints(0, 1, 2, 4)}, {fork, "f", "m1", 3, ints(0, 1, 2, 3, 5)}, // the chains to d and e begin alike
		{bookOf(grant("a", "grid", 0, 9), grant("b", "a", 0, 9)), "a", "m1", 3, nil}, {bookOf(), "a", "m1", 3, nil},
	} {
		e := api.OK
		if x.chain == nil {
			e = api.ErrNone
		}
		may, f := access.May(x.b, x.office, "read", x.object, x.day)
		same(t, "May "+x.office, all(may, f), all(x.chain != nil, api.OK))
		chain, f := access.Why(x.b, x.office, "read", x.object, x.day)
		same(t, "Why "+x.office, all(chain, f), all(x.chain, e))
	}
	chain, e := access.Why(shown(), "grid", "cut", "m1", 3) // whatever the right is
	same(t, "Why of an owner", all(chain, e), all(ints(), api.OK))
	chain, e = access.Why(shown(), "desk", "cut", "m1", 19)
	same(t, "Why of another right", all(chain, e), all(ints(), api.ErrNone))
}

func TestCheckWhy(t *testing.T) {
	twice := shown(grant("desk", "shop", 0, 99))
	for _, x := range []struct {
		b      access.Book
		office string
		day    int
		chain  []int
		e      api.Errno
	}{
		{shown(), "desk", 16, ints(0, 1), api.OK}, {shown(), "desk", 19, ints(0, 1), api.OK}, {shown(), "desk", 19, ints(2), api.OK}, {shown(), "desk", 16, ints(1), api.ErrProof}, {shown(), "desk", 20, ints(0, 1), api.ErrProof}, // as in the examples
		{shown(), "desk", 15, ints(0, 1), api.OK}, {shown(), "desk", 14, ints(0, 1), api.ErrProof}, {shown(), "desk", 16, ints(2), api.ErrProof}, {shown(), "desk", 16, ints(), api.ErrProof}, {shown(), "desk", 16, ints(0), api.ErrProof}, {shown(), "shop", 16, ints(0), api.OK}, {shown(), "shop", 16, ints(0, 1), api.ErrProof}, {shown(), "desk", 19, ints(0, 2), api.ErrProof}, {shown(), "desk", 19, ints(1, 0), api.ErrProof}, {shown(), "nobody", 16, ints(0), api.ErrProof}, {shown(), "nobody", 16, ints(), api.ErrProof},
		{shown(), "grid", 16, ints(), api.OK}, {shown(), "grid", 100000, ints(), api.OK}, {shown(), "grid", 16, ints(0), api.ErrProof}, {detours(), "grid", 3, ints(0, 3), api.ErrProof}, {detours(), "grid", 3, ints(), api.OK},
		{detours(), "c", 3, ints(0, 1, 2, 5), api.OK}, {detours(), "a", 3, ints(0, 1, 2), api.OK}, {detours(), "c", 3, ints(0, 3, 4), api.OK}, {detours(), "c", 3, ints(0, 1, 2, 3, 4), api.OK}, {detours(), "c", 5, ints(0, 3, 4), api.ErrProof}, {twice, "shop", 19, ints(2, 3), api.OK}, // a chain may pass an office twice
		{line(32), "n31", 5, value(access.Why(line(32), "n31", "read", "m1", 5)), api.OK},
		{shown(), "desk", 16, ints(0, 3), api.ErrUnknown}, {shown(), "desk", 16, ints(-1), api.ErrUnknown}, {shown(), "desk", 16, ints(0, 0, -1), api.ErrUnknown}, {shown(), "grid", 16, ints(3), api.ErrUnknown}, {bookOf(), "desk", 16, ints(0), api.ErrUnknown}, {shown(), "desk", 16, append(repeated(0, 31), 3), api.ErrUnknown}, {shown(), "desk", 16, far(), api.ErrUnknown},
		{shown(), "desk", 16, ints(0, 1, 0), api.ErrTwice}, {shown(), "desk", 16, ints(0, 0), api.ErrTwice}, {shown(), "grid", 16, ints(2, 1, 1), api.ErrTwice}, {shown(), "desk", 16, repeated(0, 32), api.ErrTwice}, {shown(), "desk", 19, ints(2, 2), api.ErrTwice},
		{shown(), "desk", 16, make([]int, 33), api.ErrMany}, {shown(), "desk", 16, repeated(-1, 33), api.ErrMany}, {shown(), "desk", 16, repeated(7, 100000), api.ErrMany}, {shown(), "desk", -1, repeated(7, 33), api.ErrRange},
	} {
		same(t, "CheckWhy", all(x.office, x.day, x.chain, access.CheckWhy(x.b, x.office, "read", "m1", x.day, x.chain)), all(x.office, x.day, x.chain, x.e))
	}
	same(t, "CheckWhy of another right", access.CheckWhy(shown(), "desk", "cut", "m1", 16, ints(0, 1)), api.ErrProof)
	b := shown()
	b.Objects = append(b.Objects, object("m2", "grid"))
	same(t, "CheckWhy of another object", access.CheckWhy(b, "desk", "read", "m2", 16, ints(0, 1)), api.ErrProof)
	b.Grants[1].Object = "m2"
	same(t, "CheckWhy of two objects", access.CheckWhy(b, "desk", "read", "m1", 16, ints(0, 1)), api.ErrProof)
}

func TestOffices(t *testing.T) {
	later := bookOf(other(grant("x", "desk", 0, 1), "cut", "m1"), grant("grid", "shop", 0, 9), grant("grid", "desk", 0, 9), grant("shop", "law", 0, 9), grant("shop", "grid", 0, 9))
	back := bookOf(grant("b", "c", 0, 9), grant("a", "b", 0, 9), grant("grid", "a", 0, 9))
	for _, x := range []struct {
		b     access.Book
		right string
		day   int
		l     string
	}{
		{shown(), "read", 19, "grid shop desk"}, // as in the examples
		{shown(), "read", 24, "grid desk"}, {shown(), "read", 12, "grid shop"}, {shown(), "cut", 19, "grid"}, {shown(), "read", 9, "grid"}, {shown(), "read", 25, "grid"}, {shown(), "read", 100000, "grid"}, {bookOf(), "read", 0, "grid"},
		{later, "read", 5, "grid desk shop law"}, // the first grant to desk is one of another right
		{later, "cut", 0, "grid"}, {back, "read", 5, "grid c b a"}, {detours(), "read", 3, "grid a b c"}, {line(32), "read", 7, "grid " + strings.Join(names(32), " ")},
		{shown(grant("grid", "shop", 19, 20), grant("desk", "grid", 0, 99)), "read", 19, "grid shop desk"},
	} {
		l, e := access.Offices(x.b, x.right, "m1", x.day)
		same(t, "Offices", all(strings.Join(l, " "), e), all(x.l, api.OK))
	}
}

func TestDays(t *testing.T) {
	spans := func(l ...int) []api.Span {
		var out []api.Span
		for pair := range slices.Chunk(l, 2) {
			out = append(out, api.Span{From: pair[0], To: pair[1]})
		}
		return out
	}
	apart := bookOf(grant("grid", "shop", 10, 20), grant("shop", "desk", 20, 30))
	for _, x := range []struct {
		b      access.Book
		office string
		l      []api.Span
	}{
		{shown(), "desk", spans(15, 25)}, {shown(), "shop", spans(10, 20)}, // as in the examples
		{shown(), "grid", spans(0, 100001)}, {bookOf(), "grid", spans(0, 100001)}, {shown(), "nobody", nil}, {bookOf(), "shop", nil}, {apart, "desk", nil}, {line(32), "n31", spans(0, 100000)},
		{shown(grant("grid", "desk", 25, 26), grant("grid", "desk", 40, 50)), "desk", spans(15, 26, 40, 50)}, {shown(grant("grid", "desk", 26, 27)), "desk", spans(15, 25, 26, 27)}, {shown(grant("grid", "desk", 0, 15)), "desk", spans(0, 25)},
		{bookOf(grant("grid", "a", 99999, 100000), grant("grid", "a", 5, 9), grant("grid", "a", 0, 1), grant("grid", "a", 7, 12)), "a", spans(0, 1, 5, 12, 99999, 100000)},
		{bookOf(grant("grid", "a", 5, 20), grant("a", "b", 0, 7), grant("a", "b", 9, 11), grant("a", "b", 18, 30)), "b", spans(5, 7, 9, 11, 18, 20)},
	} {
		l, e := access.Days(x.b, x.office, "read", "m1")
		same(t, "Days of "+x.office, all(l, e), all(x.l, api.OK))
	}
	l, e := access.Days(shown(), "desk", "cut", "m1")
	same(t, "Days of another right", all(l, e), all(spans(), api.OK))
}

// provesByHand reports whether grants are a chain, as the chapter defines one.
func provesByHand(b access.Book, office string, day int, chain []int) bool {
	owner := b.Objects[0].Owner
	if office == owner || len(chain) == 0 {
		return office == owner && len(chain) == 0
	}
	givers := []string{owner}
	for _, i := range chain {
		givers = append(givers, b.Grants[i].To)
	}
	for at, i := range chain {
		g := b.Grants[i]
		if g.Right != "read" || g.Object != "m1" || day < g.Days.From || day >= g.Days.To || g.From != givers[at] {
			return false
		}
	}
	return givers[len(chain)] == office
}

// lists returns all lists of different indices of n grants, shorter ones first, those of one length in their order.
func lists(n int) [][]int {
	out := [][]int{nil}
	for at := 0; at < len(out); at++ {
		for i := range n {
			if !slices.Contains(out[at], i) {
				out = append(out, append(slices.Clone(out[at]), i))
			}
		}
	}
	return out
}

// TestRightsByHand compares all results with those of all lists of grants of small books.
func TestRightsByHand(t *testing.T) {
	r := rand.New(rand.NewSource(1))
	for range 400 {
		b := randomBook(r, r.Intn(6))
		day := r.Intn(40)
		found := []string{b.Objects[0].Owner}
		for _, office := range fewOffices {
			why, e := ints(), api.ErrNone
			for _, chain := range lists(len(b.Grants)) {
				is := provesByHand(b, office, day, chain)
				same(t, "CheckWhy", access.CheckWhy(b, office, "read", "m1", day, chain) == api.OK, is)
				if is && e != api.OK {
					why, e = chain, api.OK
				}
			}
			chain, f := access.Why(b, office, "read", "m1", day)
			same(t, "Why", all(chain, f), all(why, e))
			may, f := access.May(b, office, "read", "m1", day)
			same(t, "May", all(may, f), all(e == api.OK, api.OK))
		}
		for _, g := range b.Grants {
			if value(access.May(b, g.To, "read", "m1", day)) && !slices.Contains(found, g.To) {
				found = append(found, g.To)
			}
		}
		l, e := access.Offices(b, "read", "m1", day)
		same(t, "Offices", all(l, e), all(found, api.OK))
	}
}

// TestDaysByHand asks of each day; grants hold on none after the first 40.
func TestDaysByHand(t *testing.T) {
	r := rand.New(rand.NewSource(2))
	for range 300 {
		b := randomBook(r, r.Intn(20))
		for _, office := range fewOffices {
			var want []int
			for day := range 50 {
				if value(access.May(b, office, "read", "m1", day)) {
					want = append(want, day)
				}
			}
			l, e := access.Days(b, office, "read", "m1")
			var got []int
			end := -1
			for _, span := range l {
				same(t, "the span is one for itself", span.From > end && span.From < span.To, true)
				end = span.To
				for day := span.From; day < min(span.To, 50); day++ {
					got = append(got, day)
				}
			}
			same(t, "Days", all(got, e), all(want, api.OK))
		}
	}
}
