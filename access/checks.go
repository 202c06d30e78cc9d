package access

import (
	"slices"

	"kilovar/api"
	"kilovar/common"
)

// maxAnswer is the greatest sum of an answer.
const maxAnswer = MaxHouses * MaxUse

// CheckBook returns the first error of a book, or OK.
func CheckBook(b Book) api.Errno {
	once := common.Once[string]()
	return common.First(
		common.AtMost(b.Objects, MaxObjects, func(o Object) api.Errno {
			return common.First(common.Name(o.Name), common.Name(o.Owner), once(o.Name))
		}),
		common.AtMost(b.Grants, MaxGrants, b.checkGrant),
	)
}

// checkGrant returns the first error of a grant of a book, or OK.
func (b Book) checkGrant(g Grant) api.Errno {
	named := names()
	return common.First(
		common.Each(named[:], func(n nameField) api.Errno { return common.Name(*n.of(&g)) }),
		common.FailIf(g.From == g.To, api.ErrConflict),
		b.checkKnown(g.Object),
		common.FailIf(g.Days.From < 0 || g.Days.From >= g.Days.To || g.Days.To > api.MaxDay, api.ErrSpan),
	)
}

// checkKnown returns ErrUnknown if there is no object with a name, or OK.
func (b Book) checkKnown(name string) api.Errno {
	return common.FailIf(!slices.ContainsFunc(b.Objects, func(o Object) bool { return o.Name == name }), api.ErrUnknown)
}

// check returns the first error of a question about some offices, or OK.
func (q question) check(offices ...string) api.Errno {
	return common.First(
		CheckBook(q.book),
		common.Each(offices, common.Name),
		common.Name(q.wanted.Right),
		common.Name(q.wanted.Object),
		q.book.checkKnown(q.wanted.Object),
		common.Within(q.day, 0, api.MaxDay),
	)
}

func checkHouses(houses int) api.Errno {
	return common.Within(houses, 1, MaxHouses)
}

// checkSet returns the first error of a set of some houses, or OK.
func checkSet(houses int, set []int) api.Errno {
	return common.First(common.FailIf(len(set) == 0, api.ErrEmpty), common.Each(set, common.Ascending(houses)))
}

// checkAnswers returns the first error of answers about houses, or OK.
func checkAnswers(houses, most int, l []Answer) api.Errno {
	return common.First(
		checkHouses(houses),
		common.Within(most, 1, MaxUse),
		common.AtMost(l, MaxAnswers, func(a Answer) api.Errno {
			return common.First(checkSet(houses, a.Set), common.Within(a.Sum, 0, maxAnswer))
		}),
	)
}

func checkEnergies(x api.Interval) api.Errno {
	return common.First(
		common.Within(x.Low, 0, MaxEnergy),
		common.Within(x.High, 0, MaxEnergy),
		common.FailIf(x.Low > x.High, api.ErrOrder),
	)
}

func checkPiece(piece []byte) api.Errno {
	return common.First(common.FailIf(isMissing(piece), api.ErrEmpty), checkSize(piece))
}

// checkSize returns the error of a piece that may be missing, or OK.
func checkSize(piece []byte) api.Errno {
	return common.FailIf(len(piece) > MaxPiece, api.ErrLarge)
}

func checkSum(sum int) api.Errno {
	return common.Within(sum, 0, MaxSum)
}

// CheckStore returns the first error of a store, or OK.
func CheckStore(s Store) api.Errno {
	version := common.In(0, MaxVersion)
	e := common.First(
		version(s.Running),
		version(s.Old),
		version(s.New),
		common.AtMost(s.Pieces, MaxPieces, checkSize),
		checkSum(s.Sum),
	)
	if e != api.OK {
		return e
	}
	return common.First(
		common.FailIf(!s.isIdle() && !s.isReceiving() && !s.isTrying(), api.ErrState),
		common.FailIf(s.Checked && sumOf(s.Pieces) != s.Sum, api.ErrCheck),
	)
}

func checkLoads(l []Load) api.Errno {
	once := common.Once[string]()
	return common.AtMost(l, MaxLoads, func(x Load) api.Errno {
		return common.First(common.Name(x.Name), once(x.Name), common.Within(x.Power, 0, MaxPower))
	})
}
