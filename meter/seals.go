package meter

import (
	"bytes"

	"kilovar/api"
	"kilovar/carrier"
	"kilovar/common"
)

const (
	opening   = "PROF"           // the bytes with which a stream begins
	head      = len(opening) + 2 // the bytes of a stream before its blocks
	blockSize = len(api.Block{})
	sealSize  = len(api.Key{})
)

// part is one of an entry's numbers: its place in an entry, the greatest one, and its place in a block.
type part struct {
	of   func(e *Entry) *int
	most int
	from int
	to   int
}

func parts() [5]part {
	return [5]part{
		{of: func(e *Entry) *int { return &e.Number }, most: api.MaxNumber, from: 0, to: 4},
		{of: func(e *Entry) *int { return &e.Tick }, most: api.MaxTick, from: 4, to: 8},
		{of: func(e *Entry) *int { return &e.Import }, most: MaxUnits - 1, from: 8, to: 11},
		{of: func(e *Entry) *int { return &e.Export }, most: MaxUnits - 1, from: 11, to: 14},
		{of: func(e *Entry) *int { return &e.Mark }, most: MaxMark, from: 14, to: 15},
	}
}

// clamped returns an entry with all numbers moved into their ranges.
func (e Entry) clamped() Entry {
	for _, p := range parts() {
		n := p.of(&e)
		*n = min(max(*n, 0), p.most)
	}
	return e
}

// block returns the block of an entry that has no error.
func (e Entry) block() api.Block {
	var b api.Block
	for _, p := range parts() {
		n := *p.of(&e)
		for i := p.to - 1; i >= p.from; i-- {
			b[i] = byte(n)
			n >>= 8
		}
	}
	return b
}

// entryOf returns the entry whose numbers are in a block, whatever they are worth.
func entryOf(b api.Block) Entry {
	var e Entry
	for _, p := range parts() {
		n := p.of(&e)
		for _, x := range b[p.from:p.to] {
			*n = *n<<8 | int(x)
		}
	}
	return e
}

// Blocked returns the block of an entry.
func Blocked(e Entry) (api.Block, api.Errno) {
	if e := CheckEntry(e); e != api.OK {
		return api.Block{}, e
	}
	return e.block(), api.OK
}

// Unblocked returns the entry of a block.
func Unblocked(b api.Block) (Entry, api.Errno) {
	out := entryOf(b)
	if e := common.First(common.FailIf(b[blockSize-1] != 0, api.ErrForm), CheckEntry(out)); e != api.OK {
		return Entry{}, e
	}
	return out, api.OK
}

// sealsOf returns the seals of entries that have no errors.
func sealsOf(key api.Key, l []Entry) []api.Key {
	seals, _ := carrier.Chain(key, common.Mapped(l, Entry.block)) // even a stream has fewer entries than a chain may have
	return seals
}

// Sealed returns the seals of entries, each one by the seal of the one before.
func Sealed(key api.Key, l []Entry) ([]api.Key, api.Errno) {
	if e := checkEntries(l); e != api.OK {
		return nil, e
	}
	return sealsOf(key, l), api.OK
}

// Verified returns the index of the first entry that is not as it was sealed, or the number of entries if there is none.
func Verified(key api.Key, l []Entry, seals []api.Key) (int, api.Errno) {
	if e := common.First(checkEntries(l), common.FailIf(len(seals) != len(l), api.ErrShape)); e != api.OK {
		return 0, e
	}
	at := 0
search:
	for i, seal := range sealsOf(key, l) {
		switch {
		case i > 0 && l[i].Number != l[i-1].Number+1: // before it one is missing, or it comes twice
			break search
		case seals[i] != seal:
			break search
		}
		at++
	}
	return at, common.FailIf(at < len(l), api.ErrCheck)
}

// sealed is a profile with the last seal of its entries.
type sealed struct {
	Profile
	last api.Key
}

// lastSeal returns the last seal of entries that have no errors: of none, the key.
func lastSeal(key api.Key, l []Entry) api.Key {
	seals := append([]api.Key{key}, sealsOf(key, l)...)
	return seals[len(seals)-1]
}

// stream returns the stream of a profile that has no error.
func (s sealed) stream() []byte {
	out := append([]byte(opening), byte(s.Room), byte(len(s.Entries)))
	for _, b := range common.Mapped(s.Entries, Entry.block) {
		out = append(out, b[:]...)
	}
	return append(out, s.last[:]...)
}

// sealedOf returns the profile of a stream that has its length, or the error of the first block with one.
func sealedOf(s []byte) (sealed, api.Errno) {
	out := sealed{Profile: Profile{Room: int(s[len(opening)])}}
	end := len(s) - sealSize
	for at := head; at < end; at += blockSize {
		x, e := Unblocked(api.Block(s[at:]))
		if e != api.OK {
			return sealed{}, e
		}
		out.Entries = append(out.Entries, x)
	}
	out.last = api.Key(s[end:])
	return out, api.OK
}

// Pack returns the stream of a profile, sealed by a key.
func Pack(key api.Key, p Profile) ([]byte, api.Errno) {
	if e := CheckProfile(p); e != api.OK {
		return nil, e
	}
	return sealed{Profile: p, last: lastSeal(key, p.Entries)}.stream(), api.OK
}

// checkStream returns the error of the beginning or of the length of a stream, or OK.
func checkStream(s []byte) api.Errno {
	switch {
	case len(s) > api.MaxStream:
		return api.ErrLong
	case len(s) < head:
		return api.ErrTorn
	case !bytes.HasPrefix(s, []byte(opening)):
		return api.ErrForm
	}
	size := head + int(s[head-1])*blockSize + sealSize
	return common.First(common.FailIf(len(s) < size, api.ErrTorn), common.FailIf(len(s) > size, api.ErrShape))
}

// Unpack returns the profile of a stream.
func Unpack(key api.Key, s []byte) (Profile, api.Errno) {
	if e := checkStream(s); e != api.OK {
		return Profile{}, e
	}
	x, e := sealedOf(s)
	e = common.First(e, common.FailIf(x.last != lastSeal(key, x.Entries), api.ErrCheck), CheckProfile(x.Profile))
	if e != api.OK {
		return Profile{}, e
	}
	return x.Profile, api.OK
}
