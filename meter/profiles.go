package meter

import (
	"slices"

	"kilovar/api"
	"kilovar/common"
)

// Stored returns a profile with a further entry.
func Stored(p Profile, e Entry) (Profile, api.Errno) {
	if e := common.First(CheckProfile(p), CheckEntry(e), checkNext(p.Entries, e)); e != api.OK {
		return Profile{}, e
	}
	kept := slices.Clone(p.Entries)
	if len(kept) == p.Room {
		kept = kept[1:]
	}
	return Profile{Room: p.Room, Entries: append(kept, e)}, api.OK
}

// Read returns the entries with the numbers of a span.
func Read(p Profile, numbers api.Span) ([]Entry, api.Errno) {
	if e := common.First(CheckProfile(p), checkSpan(numbers)); e != api.OK {
		return nil, e
	}
	switch {
	case numbers.From == numbers.To:
		return nil, api.OK
	case len(p.Entries) == 0:
		return nil, api.ErrNone
	}
	first := p.Entries[0].Number
	e := common.First(
		common.FailIf(numbers.From < first, api.ErrOld),
		common.FailIf(numbers.To > first+len(p.Entries), api.ErrNone),
	)
	if e != api.OK {
		return nil, e
	}
	return slices.Clone(p.Entries[numbers.From-first : numbers.To-first]), api.OK
}

// Greatest returns the greatest import of a number of successive entries, and the number of the first one of them.
func Greatest(p Profile, wide int) (int, int, api.Errno) {
	e := common.First(
		CheckProfile(p),
		common.Within(wide, 1, MaxWide),
		common.FailIf(len(p.Entries) < wide, api.ErrShort),
	)
	if e != api.OK {
		return 0, 0, e
	}
	greatest, first := importOf(p.Entries[:wide]), p.Entries[0].Number
	for at := range len(p.Entries) - wide + 1 {
		if sum := importOf(p.Entries[at : at+wide]); sum > greatest {
			greatest, first = sum, p.Entries[at].Number
		}
	}
	return greatest, first, api.OK
}

// importOf returns the sum of the imports of entries.
func importOf(l []Entry) int {
	sum := 0
	for _, e := range l {
		sum += e.Import
	}
	return sum
}
