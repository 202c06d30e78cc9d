package meter_test

import (
	"math/rand"
	"slices"
	"testing"

	"kilovar/api"
	"kilovar/carrier"
	"kilovar/meter"
)

// P6.3

var key = api.Key{1, 2, 3, 4, 5, 6, 7, 8}

func TestBlocked(t *testing.T) {
	for _, x := range []struct {
		e meter.Entry
		b api.Block
	}{
		{entry(258, 3, 5, 65536, 1), api.Block{0, 0, 1, 2, 0, 0, 0, 3, 0, 0, 5, 1, 0, 0, 1, 0}}, {meter.Entry{}, api.Block{}},
		{entry(999999999, 100000000, 999999, 999998, 7), api.Block{0x3b, 0x9a, 0xc9, 0xff, 0x05, 0xf5, 0xe1, 0x00, 0x0f, 0x42, 0x3f, 0x0f, 0x42, 0x3e, 7, 0}},
		{entry(0x01020304, 0x05060708, 0x090a0b, 0x0c0d0e, 6), api.Block{1, 2, 3, 4, 5, 6, 7, 8, 9, 10, 11, 12, 13, 14, 6, 0}},
	} {
		b, e := meter.Blocked(x.e)
		same(t, "Blocked", all(b, e), all(x.b, api.OK))
		got, e := meter.Unblocked(x.b)
		same(t, "Unblocked", all(got, e), all(x.e, api.OK))
	}
	for _, x := range entryErrors {
		b, e := meter.Blocked(x)
		same(t, "Blocked of a wrong entry", all(b, e), all(api.Block{}, api.ErrRange))
	}
}

func TestUnblockedOfWrongBlocks(t *testing.T) {
	for _, x := range []struct {
		b api.Block
		e api.Errno
	}{
		{api.Block{15: 1}, api.ErrForm}, {api.Block{15: 255}, api.ErrForm}, {api.Block{0: 255, 14: 8, 15: 128}, api.ErrForm},
		{api.Block{0x3b, 0x9a, 0xca, 0x00}, api.ErrRange}, {api.Block{0: 255}, api.ErrRange}, {api.Block{4: 0x05, 5: 0xf5, 6: 0xe1, 7: 0x01}, api.ErrRange}, {api.Block{4: 255}, api.ErrRange},
		{api.Block{8: 0x0f, 9: 0x42, 10: 0x40}, api.ErrRange}, {api.Block{8: 255}, api.ErrRange}, {api.Block{11: 0x0f, 12: 0x42, 13: 0x40}, api.ErrRange}, {api.Block{11: 255}, api.ErrRange}, {api.Block{14: 8}, api.ErrRange}, {api.Block{14: 255}, api.ErrRange},
	} {
		got, e := meter.Unblocked(x.b)
		same(t, "Unblocked", all(x.b, got, e), all(x.b, meter.Entry{}, x.e))
	}
}

// sealsByHand returns the seals of entries, seal by seal.
func sealsByHand(key api.Key, l []meter.Entry) []api.Key {
	var out []api.Key
	for _, x := range l {
		b := value(meter.Blocked(x))
		key = value(carrier.Seal(key, b[:]))
		out = append(out, key)
	}
	return out
}

// entriesErrors are lists of entries that are none, and their errors.
func entriesErrors() []struct {
	l []meter.Entry
	e api.Errno
} {
	wrong := entry(7, 10, 0, 0, 8)
	return []struct {
		l []meter.Entry
		e api.Errno
	}{
		{successive(7, 65), api.ErrMany}, {repeated(wrong, 65), api.ErrMany}, {repeated(wrong, 100000), api.ErrMany}, {append(successive(7, 64), wrong), api.ErrMany},
		{entries(wrong), api.ErrRange}, {append(successive(7, 63), wrong), api.ErrRange}, {append(entries(wrong), successive(7, 63)...), api.ErrRange},
	}
}

func TestSealed(t *testing.T) {
	r := rand.New(rand.NewSource(4))
	for n := range 65 {
		l, key := randomEntries(r, n), randomKey(r)
		seals, e := meter.Sealed(key, l)
		same(t, "Sealed", all(seals, e), all(sealsByHand(key, l), api.OK))
	}
	for _, l := range [][]meter.Entry{repeated(entry(7, 10, 0, 0, 0), 64), entries(entry(9, 9, 0, 0, 0), entry(7, 10, 0, 0, 0), entry(999999999, 0, 0, 0, 0))} { // nothing is asked of the numbers
		seals, e := meter.Sealed(key, l)
		same(t, "Sealed", all(seals, e), all(sealsByHand(key, l), api.OK))
	}
	for _, x := range entriesErrors() {
		seals, e := meter.Sealed(key, x.l)
		same(t, "Sealed of wrong entries", all(seals, e), all([]api.Key{}, x.e))
	}
	for _, wrong := range entryErrors {
		seals, e := meter.Sealed(key, entries(meter.Entry{}, wrong))
		same(t, "Sealed of a wrong entry", all(seals, e), all([]api.Key{}, api.ErrRange))
	}
}

func checkVerified(t *testing.T, what string, l []meter.Entry, seals []api.Key, index int, want api.Errno) {
	t.Helper()
	n, e := meter.Verified(key, l, seals)
	same(t, what, all(n, e), all(index, want))
}

func TestVerified(t *testing.T) {
	for _, n := range ints(0, 1, 2, 5, 64) {
		l := successive(7, n)
		checkVerified(t, "Verified", l, sealsByHand(key, l), n, api.OK)
	}
	l := entries(entry(7, 10, 0, 0, 0), entry(8, 10, 0, 0, 0), entry(9, 3, 0, 0, 0)) // nothing is asked of the ticks
	checkVerified(t, "Verified of ticks that do not ascend", l, sealsByHand(key, l), 3, api.OK)
	l = successive(7, 5)
	seals := sealsByHand(key, l)
	for i := range l {
		for at := range 8 {
			other := slices.Clone(seals)
			other[i][at]++
			checkVerified(t, "Verified with another seal", l, other, i, api.ErrCheck)
		}
		other := slices.Clone(l)
		other[i].Import++
		checkVerified(t, "Verified of another entry", other, seals, i, api.ErrCheck)
	}
	same(t, "Verified by another key", all(meter.Verified(api.Key{}, l, seals)), all(0, api.ErrCheck))
	checkVerified(t, "Verified with other seals in two places", l, []api.Key{seals[0], seals[1], {}, seals[3], {}}, 2, api.ErrCheck)
	checkVerified(t, "Verified with seals by the wrong key", l[1:], seals[1:], 0, api.ErrCheck)
}

// TestVerifiedNumbers has entries with their seals whose numbers do not follow each other.
func TestVerifiedNumbers(t *testing.T) {
	for _, x := range []struct {
		numbers []int
		index   int
		e       api.Errno
	}{
		{ints(7), 1, api.OK}, {ints(0, 1), 2, api.OK}, {ints(999999998, 999999999), 2, api.OK}, {ints(7, 9), 1, api.ErrCheck}, {ints(7, 7), 1, api.ErrCheck}, {ints(7, 6), 1, api.ErrCheck}, {ints(7, 8, 8, 9), 2, api.ErrCheck}, {ints(7, 8, 10, 12), 2, api.ErrCheck}, {ints(999999999, 0), 1, api.ErrCheck}, {ints(7, 8, 9, 7), 3, api.ErrCheck},
	} {
		var l []meter.Entry
		for i, n := range x.numbers {
			l = append(l, entry(n, i, 0, 0, 0))
		}
		checkVerified(t, "Verified", l, sealsByHand(key, l), x.index, x.e)
	}
}

func TestVerifiedOfWrongArguments(t *testing.T) {
	for _, x := range entriesErrors() {
		checkVerified(t, "Verified of wrong entries", x.l, nil, 0, x.e)
		checkVerified(t, "Verified of wrong entries", x.l, make([]api.Key, len(x.l)), 0, x.e)
	}
	l := successive(7, 3)
	seals := sealsByHand(key, l)
	checkVerified(t, "Verified with a seal too few", l, seals[:2], 0, api.ErrShape)
	checkVerified(t, "Verified with a seal too many", l, append(slices.Clone(seals), api.Key{}), 0, api.ErrShape)
	checkVerified(t, "Verified without seals", l, nil, 0, api.ErrShape)
	checkVerified(t, "Verified without entries", nil, seals[:1], 0, api.ErrShape)
	checkVerified(t, "Verified with very many seals", l, make([]api.Key, 100000), 0, api.ErrShape)
}

// joined returns the bytes of a stream whose blocks are those of some entries.
func joined(room, n byte, l []meter.Entry, last api.Key) []byte {
	out := []byte{'P', 'R', 'O', 'F', room, n}
	for _, x := range l {
		b := value(meter.Blocked(x))
		out = append(out, b[:]...)
	}
	return append(out, last[:]...)
}

// sealedStream returns a stream with the right seal.
func sealedStream(room byte, l ...meter.Entry) []byte {
	return joined(room, byte(len(l)), l, append([]api.Key{key}, sealsByHand(key, l)...)[len(l)])
}

func TestPack(t *testing.T) {
	for _, x := range []struct {
		p    meter.Profile
		want []byte
	}{
		{profile(3), []byte{'P', 'R', 'O', 'F', 3, 0, 1, 2, 3, 4, 5, 6, 7, 8}}, {profile(64), joined(64, 0, nil, key)}, {profile(1, entry(258, 3, 5, 65536, 1)), sealedStream(1, entry(258, 3, 5, 65536, 1))},
		{profile(9, successive(5, 4)...), sealedStream(9, successive(5, 4)...)}, {profile(64, successive(999, 64)...), sealedStream(64, successive(999, 64)...)},
	} {
		s, e := meter.Pack(key, x.p)
		same(t, "Pack", all(s, e), all(x.want, api.OK))
		p, e := meter.Unpack(key, x.want)
		same(t, "Unpack", all(p, e), all(x.p, api.OK))
	}
	for _, x := range profileErrors() {
		s, e := meter.Pack(key, x.p)
		same(t, "Pack of a wrong profile", all(s, e), all([]byte{}, x.e))
	}
}

func checkUnpack(t *testing.T, what string, s []byte, want api.Errno) {
	t.Helper()
	p, e := meter.Unpack(key, s)
	same(t, what, all(p, e), all(meter.Profile{}, want))
}

// changed returns a stream with some bytes from an index on.
func changed(s []byte, at int, bytes ...byte) []byte {
	out := slices.Clone(s)
	copy(out[at:], bytes)
	return out
}

func TestUnpackOfWrongLengths(t *testing.T) {
	s := sealedStream(9, successive(5, 4)...)
	for n := range len(s) {
		checkUnpack(t, "a part of a stream", s[:n], api.ErrTorn)
		if n > 5 {
			checkUnpack(t, "a part of a stream of another form", changed(s[:n], 0, 'p'), api.ErrForm)
		} else {
			checkUnpack(t, "too few bytes of another form", make([]byte, n), api.ErrTorn)
		}
	}
	for n := range 40 {
		checkUnpack(t, "a stream and more", append(slices.Clone(s), make([]byte, n+1)...), api.ErrShape)
	}
	for at := range 4 {
		checkUnpack(t, "another beginning", changed(s, at, '_'), api.ErrForm)
		checkUnpack(t, "another beginning of a stream that is too long", append(changed(s, at, 0), 0), api.ErrForm)
	}
	checkUnpack(t, "an entry more than told", changed(s, 5, 3), api.ErrShape)
	checkUnpack(t, "an entry fewer than told", changed(s, 5, 5), api.ErrTorn)
	checkUnpack(t, "a wrong block of a stream that is too short", changed(s[:len(s)-1], 21, 1), api.ErrTorn)
	checkUnpack(t, "a wrong block of a stream that is too long", append(changed(s, 21, 1), 0), api.ErrShape)
	checkUnpack(t, "the longest stream", changed(make([]byte, 400000), 0, s...), api.ErrShape)
	checkUnpack(t, "the longest stream of another form", make([]byte, 400000), api.ErrForm)
	checkUnpack(t, "a stream beyond the longest one", changed(make([]byte, 400001), 0, s...), api.ErrLong)
	checkUnpack(t, "a stream beyond the longest one of another form", make([]byte, 400001), api.ErrLong)
}

func TestUnpackOfWrongBlocks(t *testing.T) {
	s := sealedStream(9, successive(5, 4)...)
	for i := range 4 {
		checkUnpack(t, "a last byte of a block", changed(s, 6+16*i+15, 1), api.ErrForm)
		checkUnpack(t, "a mark", changed(s, 6+16*i+14, 8), api.ErrRange)
		checkUnpack(t, "a number", changed(s, 6+16*i, 255), api.ErrRange)
	}
	checkUnpack(t, "two wrong blocks", changed(changed(s, 6+15, 1), 6+16+14, 8), api.ErrForm)
	checkUnpack(t, "two wrong blocks", changed(changed(s, 6+14, 8), 6+16+15, 1), api.ErrRange)
	checkUnpack(t, "a block with two errors", changed(s, 6+14, 8, 1), api.ErrForm)
	checkUnpack(t, "a wrong block and a wrong room", changed(changed(s, 4, 0), 6+14, 8), api.ErrRange)
	checkUnpack(t, "a wrong block and a wrong room", changed(changed(s, 4, 0), 6+15, 8), api.ErrForm)
}

func TestUnpackOfWrongSeals(t *testing.T) {
	for _, s := range [][]byte{sealedStream(9, successive(5, 4)...), sealedStream(9)} {
		for at := len(s) - 8; at < len(s); at++ {
			checkUnpack(t, "another seal", changed(s, at, s[at]+1), api.ErrCheck)
		}
		p, e := meter.Unpack(api.Key{}, s)
		same(t, "another key", all(p, e), all(meter.Profile{}, api.ErrCheck))
		checkUnpack(t, "another seal and a wrong room", changed(changed(s, 4, 0), len(s)-1, s[len(s)-1]+1), api.ErrCheck)
	}
	s := sealedStream(9, successive(5, 4)...)
	for i := range 4 {
		for _, at := range ints(3, 7, 10, 13) {
			checkUnpack(t, "another block", changed(s, 6+16*i+at, s[6+16*i+at]^1), api.ErrCheck)
		}
	}
	checkUnpack(t, "entries in disorder with another seal", joined(9, 2, entries(entry(8, 20, 0, 0, 0), entry(7, 10, 0, 0, 0)), key), api.ErrCheck)
}

// TestUnpackOfWrongProfiles has streams with the right seals of profiles that are none.
func TestUnpackOfWrongProfiles(t *testing.T) {
	for _, x := range profileErrors() {
		if x.p.Room != int(byte(x.p.Room)) || len(x.p.Entries) > 255 || slices.ContainsFunc(x.p.Entries, func(e meter.Entry) bool { return meter.CheckEntry(e) != api.OK }) {
			continue
		}
		checkUnpack(t, "a wrong profile", sealedStream(byte(x.p.Room), x.p.Entries...), x.e)
	}
	checkUnpack(t, "a room of 255", sealedStream(255, successive(5, 4)...), api.ErrRange)
	for _, n := range ints(65, 128, 255) {
		s := sealedStream(64, successive(5, n)...)
		checkUnpack(t, "many entries", s, api.ErrMany)
		checkUnpack(t, "many entries with another seal", changed(s, len(s)-1, s[len(s)-1]+1), api.ErrCheck)
	}
}
