package access_test

import (
	"math/rand"
	"slices"
	"testing"

	"kilovar/access"
	"kilovar/api"
)

// P9.5 and P10

// eachRight calls a function with rights of offices that random books give, each with its chain.
func eachRight(seed int64, call func(r *rand.Rand, b access.Book, office string, day int, chain []int)) {
	r := rand.New(rand.NewSource(seed))
	for range 400 {
		b, day := randomBook(r, r.Intn(20)), r.Intn(40)
		for _, office := range fewOffices {
			if chain, e := access.Why(b, office, "read", "m1", day); e == api.OK {
				call(r, b, office, day, chain)
			}
		}
	}
}

func TestRightsAreProvedByTheirChains(t *testing.T) {
	eachRight(11, func(r *rand.Rand, b access.Book, office string, day int, chain []int) {
		may, e := access.May(b, office, "read", "m1", day)
		same(t, "May, CheckWhy", all(may, e, access.CheckWhy(b, office, "read", "m1", day, chain)), all(true, api.OK, api.OK))
		owner := b.Objects[0].Owner
		for _, other := range fewOffices {
			if other != office {
				same(t, "the chain of another office", access.CheckWhy(b, other, "read", "m1", day, chain) == api.OK, len(chain) == 0 && other == owner)
			}
		}
		if len(chain) == 0 {
			return
		}
		same(t, "the chain of another right or object", all(access.CheckWhy(b, office, "cut", "m1", day, chain), access.CheckWhy(b, office, "read", "m2", day, chain)), all(api.ErrProof, api.ErrProof))
		same(t, "a chain without its first grant", access.CheckWhy(b, office, "read", "m1", day, chain[1:]), api.ErrProof)
		for _, i := range chain {
			g := b.Grants[i].Days
			same(t, "the day is one of all grants", g.From <= day && day < g.To, true)
			same(t, "a chain on a day of not all grants", all(access.CheckWhy(b, office, "read", "m1", g.To, chain), g.From == 0 || access.CheckWhy(b, office, "read", "m1", g.From-1, chain) == api.ErrProof), all(api.ErrProof, true))
		}
	})
}

// TestNoRightIsLeftWithoutGrants leaves the grants of a chain alone in a book, then all but one of them: the right is derived from these grants, and from no fewer. A further grant takes it away from nobody.
func TestNoRightIsLeftWithoutGrants(t *testing.T) {
	eachRight(12, func(r *rand.Rand, b access.Book, office string, day int, chain []int) {
		alone := b
		alone.Grants = nil
		for _, i := range chain {
			alone.Grants = append(alone.Grants, b.Grants[i])
		}
		may, e := access.May(alone, office, "read", "m1", day)
		same(t, "May by the grants of the chain alone", all(may, e), all(true, api.OK))
		for i := range alone.Grants { // the shortest chain needs each of them
			less := alone
			less.Grants = slices.Delete(slices.Clone(alone.Grants), i, i+1)
			may, e := access.May(less, office, "read", "m1", day)
			same(t, "May without a grant of the chain", all(may, e), all(false, api.OK))
		}
		more := b
		more.Grants = slices.Insert(slices.Clone(b.Grants), r.Intn(len(b.Grants)+1), randomGrant(r))
		may, e = access.May(more, office, "read", "m1", day)
		same(t, "May with a further grant", all(may, e), all(true, api.OK))
	})
}

func TestDaysAreThoseOfChains(t *testing.T) {
	eachRight(13, func(r *rand.Rand, b access.Book, office string, day int, chain []int) {
		from, to := 0, 100001
		for _, i := range chain {
			from, to = max(from, b.Grants[i].Days.From), min(to, b.Grants[i].Days.To)
		}
		l, e := access.Days(b, office, "read", "m1")
		covers := slices.ContainsFunc(l, func(span api.Span) bool { return span.From <= from && to <= span.To })
		same(t, "the days of the chain are days on which the office may", all(covers, e), all(true, api.OK))
		for _, span := range l {
			for _, day := range ints(span.From, span.To-1) {
				may, e := access.May(b, office, "read", "m1", day)
				same(t, "May on a day of Days", all(may, e), all(true, api.OK))
			}
			for _, day := range ints(span.From-1, span.To) {
				if day >= 0 && day <= 100000 {
					may, e := access.May(b, office, "read", "m1", day)
					same(t, "May beside the days of Days", all(may, e), all(false, api.OK))
				}
			}
		}
	})
}

func TestOfficesAreThoseThatMay(t *testing.T) {
	r := rand.New(rand.NewSource(14))
	for range 400 {
		b, day := randomBook(r, r.Intn(20)), r.Intn(40)
		l, e := access.Offices(b, "read", "m1", day)
		same(t, "Offices: the owner", all(l[0], e), all(b.Objects[0].Owner, api.OK))
		for _, office := range fewOffices {
			n := 0
			for _, other := range l {
				if other == office {
					n++
				}
			}
			may := value(access.May(b, office, "read", "m1", day))
			same(t, "an office is there once, or not at all", all(n == 1, n > 1), all(may, false))
		}
	}
}

func TestFurtherAnswersMakeNoIntervalGreater(t *testing.T) {
	r := rand.New(rand.NewSource(15))
	for range 300 {
		houses, most := 1+r.Intn(4), 1+r.Intn(7)
		l, uses := randomAnswers(r, houses, most, r.Intn(6))
		before := repeated(to(0, most), houses)
		for n := range len(l) + 1 {
			k, e := access.Known(houses, most, l[:n])
			same(t, "Known: error", e, api.OK)
			for house, x := range k {
				same(t, "an interval lies in the one before, and the use in it", all(before[house].Low <= x.Low, x.High <= before[house].High, x.Low <= uses[house], uses[house] <= x.High), all(true, true, true, true))
			}
			before = k
		}
		for _, a := range l {
			sum, e := access.Sum(uses, a.Set)
			same(t, "Sum", all(sum, e), all(a.Sum, api.OK))
		}
	}
}

// TestPermittedSetsHaveNoHouseAsTheirDifference asks one set after the other, if it is permitted.
func TestPermittedSetsHaveNoHouseAsTheirDifference(t *testing.T) {
	r := rand.New(rand.NewSource(16))
	for range 1000 {
		houses, k := 2+r.Intn(4), 2+r.Intn(3)
		var asked [][]int
		for _, set := range randomSets(r, houses, 16) {
			if !value(access.Permitted(houses, k, asked, set)) {
				continue
			}
			same(t, "a set is large enough", len(set) >= k, true)
			for _, other := range asked {
				n := 0
				for house := range houses {
					if slices.Contains(other, house) != slices.Contains(set, house) {
						n++
					}
				}
				same(t, "the difference of two sets", n == 0 || n >= k, true)
			}
			asked = append(asked, set)
			is, e := access.Permitted(houses, k, asked, set)
			same(t, "a set may be asked again", all(is, e), all(true, api.OK))
		}
	}
}

// TestHiddenHousesAreNotKnown has, for each house, two uses of all houses that lead to the same answers, in which it uses amounts that differ by the width.
func TestHiddenHousesAreNotKnown(t *testing.T) {
	r := rand.New(rand.NewSource(17))
	for range 500 {
		houses, most, width := 1+r.Intn(3), 1+r.Intn(7), r.Intn(4)
		l, _ := randomAnswers(r, houses, most, r.Intn(3))
		want, is := knownByHand(houses, most, l)
		same(t, "uses lead to their answers", is, true)
		hidden, e := access.Hidden(houses, most, l, width)
		for _, x := range want {
			same(t, "the interval of a hidden house", hidden && x.High-x.Low < width, false)
		}
		same(t, "Hidden: error", e, api.OK)
		same(t, "a house that is known is not hidden", hidden && width > 0 && slices.ContainsFunc(want, func(x api.Interval) bool { return x.Low == x.High }), false)
	}
}

func TestFurtherMetersMakeNoBalanceGreater(t *testing.T) {
	r := rand.New(rand.NewSource(18))
	random := func() api.Interval {
		x := pick(r, 0, r.Intn(100), 1000000000)
		return to(x, pick(r, x, x+r.Intn(1000000001-x)))
	}
	for range 500 {
		fed := random()
		var l []api.Interval
		before := value(access.Balance(fed, l))
		verdict := value(access.Verdict(fed, l))
		for range r.Intn(6) {
			l = append(l, random())
			b, e := access.Balance(fed, l)
			v, f := access.Verdict(fed, l)
			same(t, "the balance with a meter more", all(b.Low <= before.Low, b.High <= before.High, b.Low <= b.High, v <= verdict, e, f), all(true, true, true, true, api.OK, api.OK))
			before, verdict = b, v
		}
	}
}

// TestProgramsInPieces receives the pieces of a program in any order, some of them more than once, or with a byte changed.
func TestProgramsInPieces(t *testing.T) {
	r := rand.New(rand.NewSource(19))
	for range 300 {
		s := access.Store{Running: r.Intn(10000), Old: r.Intn(10001)}
		p := program(s.Running+1, randomPieces(r)...)
		sum := value(access.ProgramSum(p))
		x, e := access.Begun(s, p.Version, len(p.Pieces), sum)
		same(t, "Begun: error", e, api.OK)
		for _, i := range slices.Concat(r.Perm(len(p.Pieces)), ints(r.Intn(len(p.Pieces)))) {
			_, e := access.Checked(x)
			same(t, "Checked", e == api.ErrShort, slices.ContainsFunc(x.Pieces, func(piece []byte) bool { return len(piece) == 0 }))
			x, e = access.Received(x, i, p.Pieces[i])
			same(t, "Received: error", e, api.OK)
		}
		same(t, "the pieces", x.Pieces, p.Pieces)
		x, e = access.Checked(x)
		same(t, "Checked: error", e, api.OK)
		got, e := access.ProgramSum(program(x.New, x.Pieces...))
		same(t, "the sum that was told", all(got, e), all(sum, api.OK))
		x, e = access.Tried(x)
		same(t, "Tried", all(x.Running, x.Old, x.Trial, e), all(p.Version, s.Running, true, api.OK))
		back, e := access.Back(x)
		same(t, "Back", all(back, e), all(access.Store{Running: s.Running, Old: s.Running}, api.OK))
		kept, e := access.Kept(x)
		same(t, "Kept", all(kept, e), all(access.Store{Running: p.Version, Old: s.Running}, api.OK))
	}
}

func TestChangedProgramsAreNotChecked(t *testing.T) {
	r := rand.New(rand.NewSource(20))
	for range 500 {
		p := program(1, randomPieces(r)...)
		s := access.Store{New: 1, Sum: value(access.ProgramSum(p)), Pieces: p.Pieces}
		piece := p.Pieces[r.Intn(len(p.Pieces))]
		piece[r.Intn(len(piece))] += byte(1 + r.Intn(255))
		want := api.ErrCheck
		if value(access.ProgramSum(p)) == s.Sum { // by chance
			want = api.OK
		}
		_, e := access.Checked(s)
		same(t, "Checked of a changed program", e, want)
	}
}

// TestStoresStayStores leads a store through any steps: it never has an error, and runs no version but those that were checked, or ran before.
func TestStoresStayStores(t *testing.T) {
	r := rand.New(rand.NewSource(21))
	s, ran, trials := access.Store{Running: 3}, ints(3), 0
	for range 30000 {
		p := program(min(s.Running+r.Intn(3), 10000), repeated([]byte{byte(r.Intn(3)), 1}, 1+r.Intn(3))...)
		before := s
		step := r.Intn(9)
		next, e := s, api.OK
		switch step {
		case 0:
			next, e = access.Begun(s, p.Version, len(p.Pieces), pick(r, 3, 10, 21, value(access.ProgramSum(p))))
		case 1, 2, 3, 4:
			next, e = access.Received(s, r.Intn(3), []byte{byte(r.Intn(2)), 1})
		case 5:
			next, e = access.Checked(s)
		case 6:
			next, e = access.Tried(s)
		case 7:
			next, e = access.Kept(s)
		case 8:
			next, e = access.Back(s)
		}
		if e != api.OK {
			continue
		}
		s = next
		same(t, "CheckStore", access.CheckStore(s), api.OK)
		if s.Running != before.Running && step == 6 {
			same(t, "a version is tried that was checked", all(before.Checked, before.New, s.Old), all(true, s.Running, before.Running))
			ran = append(ran, s.Running)
			trials++
		}
		same(t, "the running version ran before, or is tried", slices.Contains(ran, s.Running), true)
		same(t, "another version runs by Tried or Back alone", s.Running != before.Running && step != 6 && step != 8, false)
	}
	if trials < 50 {
		t.Errorf("there were %d trials", trials)
	}
}

func TestTurnsAreFair(t *testing.T) {
	r := rand.New(rand.NewSource(22))
	for range 1000 {
		l, limit, slots := randomLoads(r), pick(r, r.Intn(20), r.Intn(3000)), r.Intn(65)
		out, e := access.Turns(l, limit, slots)
		same(t, "Turns", all(len(out), e), all(slots, api.OK))
		turns := make([]int, len(l))
		for _, slot := range out {
			power := 0
			for _, i := range slot {
				power += l[i].Power
				turns[i]++
			}
			same(t, "the slot is under the cap, its loads ascending", all(power <= limit, slices.IsSorted(slot), len(slices.Compact(slices.Clone(slot)))), all(true, true, len(slot)))
		}
		for i, x := range l {
			if x.Power <= limit && turns[i] < slots/len(l) {
				t.Errorf("the load %d of %v has %d turns in %d slots", i, l, turns[i], slots)
			}
			if x.Power > limit {
				same(t, "the turns of a load above the cap", turns[i], 0)
			}
		}
	}
}

func TestBooksComeBack(t *testing.T) {
	r := rand.New(rand.NewSource(23))
	for range 500 {
		b := randomBook(r, r.Intn(33))
		s, e := access.Print(b)
		same(t, "Print: error", e, api.OK)
		back, i, e := access.Parse(s)
		same(t, "Parse", all(back, i, e), all(b, 0, api.OK))
		again, e := access.Print(back)
		same(t, "Print once more", all(again, e), all(s, api.OK))
	}
}
