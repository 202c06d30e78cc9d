package access

import (
	"iter"
	"slices"

	"kilovar/api"
	"kilovar/common"
)

// nameField is one of the names of a grant.
type nameField struct {
	of func(g *Grant) *string
}

// names returns the names of a grant, in their order.
func names() [4]nameField {
	return [4]nameField{
		{of: func(g *Grant) *string { return &g.From }},
		{of: func(g *Grant) *string { return &g.To }},
		{of: func(g *Grant) *string { return &g.Right }},
		{of: func(g *Grant) *string { return &g.Object }},
	}
}

// bare returns a grant without its offices and its days: what it grants.
func (g Grant) bare() Grant {
	return Grant{Right: g.Right, Object: g.Object}
}

// holds reports whether a day is in the span of a grant.
func (g Grant) holds(day int) bool {
	return g.Days.From <= day && day < g.Days.To
}

// question is a right of an object, wanted on a day, about which a book is asked.
type question struct {
	book   Book
	wanted Grant
	day    int
}

func questionOf(b Book, right, object string, day int) question {
	return question{book: b, wanted: Grant{Right: right, Object: object}, day: day}
}

// serves reports whether a grant may be one of a chain.
func (q question) serves(g Grant) bool {
	return g.bare() == q.wanted && g.holds(q.day)
}

// grants visits all grants that may be ones of a chain, with their indices.
func (q question) grants() iter.Seq2[int, Grant] {
	return func(yield func(i int, g Grant) bool) {
		for i, g := range q.book.Grants {
			if q.serves(g) && !yield(i, g) {
				return
			}
		}
	}
}

// owner returns the owner of the object.
func (q question) owner() string {
	i := slices.IndexFunc(q.book.Objects, func(o Object) bool { return o.Name == q.wanted.Object })
	return q.book.Objects[i].Owner
}

// chains returns the shortest chains of offices that may, by these offices: of all of them, or of a last one and of those that come before it. Offices are found in the order of their chains, so that the first chain to an office is the one that is wanted.
func (q question) chains(last string) map[string][]int {
	owner := q.owner()
	found := map[string][]int{owner: nil}
search:
	for queue := []string{owner}; len(queue) > 0; queue = queue[1:] {
		from := queue[0]
		for i, g := range q.grants() {
			if _, known := found[g.To]; known || g.From != from {
				continue
			}
			found[g.To] = append(slices.Clone(found[from]), i)
			queue = append(queue, g.To)
			if g.To == last {
				break search
			}
		}
	}
	return found
}

// chain returns the shortest chain of an office, and whether it may.
func (q question) chain(office string) ([]int, bool) {
	chain, may := q.chains(office)[office]
	return chain, may
}

// proves reports whether grants are a chain that ends at an office.
func (q question) proves(chain []int, office string) bool {
	holder := q.owner()
	if office == holder {
		return len(chain) == 0
	}
	for _, i := range chain {
		g := q.book.Grants[i]
		if !q.serves(g) || g.From != holder {
			return false
		}
		holder = g.To
	}
	return holder == office
}

// May reports whether an office may use a right of an object on a day.
func May(b Book, office, right, object string, day int) (bool, api.Errno) {
	q := questionOf(b, right, object, day)
	if e := q.check(office); e != api.OK {
		return false, e
	}
	_, may := q.chain(office)
	return may, api.OK
}

// Why returns the shortest chain for a right of an office.
func Why(b Book, office, right, object string, day int) ([]int, api.Errno) {
	q := questionOf(b, right, object, day)
	if e := q.check(office); e != api.OK {
		return nil, e
	}
	chain, may := q.chain(office)
	return chain, common.FailIf(!may, api.ErrNone)
}

// CheckWhy returns the first error of a chain for a right of an office, or OK.
func CheckWhy(b Book, office, right, object string, day int, chain []int) api.Errno {
	q := questionOf(b, right, object, day)
	known := func(i int) api.Errno { return common.Index(i, len(b.Grants)) }
	if e := common.First(q.check(office), common.AtMost(chain, MaxGrants, known)); e != api.OK {
		return e
	}
	return common.First(
		common.Each(chain, common.Once[int]()),
		common.FailIf(!q.proves(chain, office), api.ErrProof),
	)
}

// Offices returns all offices that may use a right of an object on a day.
func Offices(b Book, right, object string, day int) ([]string, api.Errno) {
	q := questionOf(b, right, object, day)
	if e := q.check(); e != api.OK {
		return nil, e
	}
	found := q.chains("") // no office has no name: none is the last one
	out := []string{q.owner()}
	for _, g := range b.Grants {
		if _, may := found[g.To]; may && !slices.Contains(out, g.To) {
			out = append(out, g.To)
		}
	}
	return out, api.OK
}

// Days returns the spans of days on which an office may use a right of an object.
func Days(b Book, office, right, object string) ([]api.Span, api.Errno) {
	q := questionOf(b, right, object, 0)
	if e := q.check(office); e != api.OK {
		return nil, e
	}
	var out []api.Span
	for span := range b.periods() {
		q.day = span.From
		if _, may := q.chain(office); may {
			out = joined(out, span)
		}
	}
	return out, api.OK
}

// periods visits the spans, one after the other, in which the same grants hold on all days.
func (b Book) periods() iter.Seq[api.Span] {
	ends := []int{api.MaxDay + 1}
	for _, g := range b.Grants {
		ends = append(ends, g.Days.From, g.Days.To)
	}
	slices.Sort(ends)
	return func(yield func(span api.Span) bool) {
		from := 0
		for _, end := range ends {
			if from < end && !yield(api.Span{From: from, To: end}) {
				return
			}
			from = end
		}
	}
}

// joined returns spans with a further one behind them; spans that touch are one.
func joined(l []api.Span, span api.Span) []api.Span {
	if last := len(l) - 1; last >= 0 && l[last].To == span.From {
		l[last].To = span.To
		return l
	}
	return append(l, span)
}
