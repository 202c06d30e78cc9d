package access_test

import (
	"math/rand"
	"slices"
	"testing"

	"kilovar/access"
	"kilovar/api"
)

// P9.3

func program(version int, pieces ...[]byte) access.Program {
	return access.Program{Version: version, Pieces: pieces}
}

func TestProgramSum(t *testing.T) {
	for _, x := range []struct {
		p access.Program
		n int
	}{
		{program(5, pieces()...), 14}, // as in the examples
		{program(1, []byte{1, 2, 3}), 14}, {program(1, []byte{1}, []byte{2}, []byte{3}), 14}, {program(1, []byte{3}, []byte{1, 2}), 11}, {program(10000, []byte{0}), 0}, {program(1, []byte{255}), 255}, {program(1, make([]byte, 32), []byte{2}), 66},
		{program(1, repeated(byte(255), 9)), 1502}, {program(1, append(repeated(byte(0), 27), 1, 0, 0, 0, 0), append(repeated(byte(0), 6), 255)), 0}, {program(1, repeated(byte(255), 8), []byte{88}), 9972}, {program(1, repeated(byte(255), 8), []byte{88, 1}), 9},
		{program(1, repeated(repeated(byte(255), 32), 16)...), 255 * 512 * 513 / 2 % 9973},
	} {
		n, e := access.ProgramSum(x.p)
		same(t, "ProgramSum", all(n, e), all(x.n, api.OK))
	}
	check := func(p access.Program, want api.Errno) {
		t.Helper()
		n, e := access.ProgramSum(p)
		same(t, "ProgramSum of a wrong program", all(p.Version, n, e), all(p.Version, 0, want))
	}
	for _, n := range outside(1, 10000) {
		check(program(n), api.ErrRange)
		check(program(n, pieces()...), api.ErrRange)
	}
	check(program(1), api.ErrEmpty)
	check(program(1, make([][]byte, 17)...), api.ErrMany)
	check(program(1, repeated(make([]byte, 33), 17)...), api.ErrMany)
	check(program(1, []byte{}), api.ErrEmpty)
	check(program(1, []byte{1}, nil, make([]byte, 33)), api.ErrEmpty)
	check(program(1, make([]byte, 33)), api.ErrLarge)
	check(program(1, []byte{1}, make([]byte, 33), nil), api.ErrLarge)
}

func TestCheckStore(t *testing.T) {
	for _, s := range []access.Store{
		{}, idle(), begun(), half(), full(), checked(), tried(), {Running: 10000, Old: 10000}, {Running: 4, Old: 9}, {New: 1, Pieces: make([][]byte, 1)}, {New: 10000, Running: 9999, Sum: 9972, Pieces: make([][]byte, 16)}, {Running: 1, New: 1, Old: 10000, Sum: 14, Pieces: pieces(), Checked: true, Trial: true}, {New: 1, Sum: 14, Pieces: pieces(), Checked: true},
		with(full(), func(s *access.Store) { s.Sum = 13 }), with(half(), func(s *access.Store) { s.Sum = 0 }), {New: 1, Pieces: repeated(make([]byte, 32), 16)}, {New: 1, Pieces: repeated(make([]byte, 32), 16), Checked: true},
	} {
		same(t, "CheckStore", all(s, access.CheckStore(s)), all(s, api.OK))
	}
	for e, l := range wrongStores() {
		for _, s := range l {
			same(t, "CheckStore", all(s, access.CheckStore(s)), all(s, e))
		}
	}
}

// TestWrongStores gives stores with errors, and further arguments with errors, to all functions that take a store.
func TestWrongStores(t *testing.T) {
	for e, l := range wrongStores() {
		for _, s := range l {
			check := func(what string, x access.Store, f api.Errno) {
				t.Helper()
				same(t, what, all(s, x, f), all(s, access.Store{}, e))
			}
			x, f := access.Begun(s, 0, 0, -1)
			check("Begun", x, f)
			x, f = access.Received(s, -1, nil)
			check("Received", x, f)
			x, f = access.Checked(s)
			check("Checked", x, f)
			x, f = access.Tried(s)
			check("Tried", x, f)
			x, f = access.Kept(s)
			check("Kept", x, f)
			x, f = access.Back(s)
			check("Back", x, f)
		}
	}
}

func TestBegun(t *testing.T) {
	for _, x := range []struct {
		s                    access.Store
		version, pieces, sum int
		want                 access.Store
	}{
		{idle(), 5, 2, 14, begun()}, {begun(), 5, 2, 14, begun()}, {half(), 5, 2, 14, begun()}, {full(), 5, 2, 14, begun()}, {checked(), 5, 2, 14, begun()}, {full(), 6, 1, 0, access.Store{Running: 4, Old: 2, New: 6, Pieces: make([][]byte, 1)}},
		{access.Store{}, 1, 16, 9972, access.Store{New: 1, Sum: 9972, Pieces: make([][]byte, 16)}}, {idle(), 10000, 1, 0, access.Store{Running: 4, Old: 2, New: 10000, Pieces: make([][]byte, 1)}}, {access.Store{Running: 4, Old: 9}, 7, 1, 3, access.Store{Running: 4, Old: 9, New: 7, Sum: 3, Pieces: make([][]byte, 1)}},
		{with(full(), func(s *access.Store) { s.New = 9 }), 5, 2, 14, begun()}, // a version below the one that was received
	} {
		s, e := access.Begun(x.s, x.version, x.pieces, x.sum)
		same(t, "Begun", all(s, len(s.Pieces), e), all(x.want, x.pieces, api.OK))
	}
	check := func(s access.Store, version, pieces, sum int, want api.Errno) {
		t.Helper()
		x, e := access.Begun(s, version, pieces, sum)
		same(t, "Begun of wrong arguments", all(version, pieces, sum, x, e), all(version, pieces, sum, access.Store{}, want))
	}
	for _, s := range []access.Store{idle(), tried()} {
		for _, n := range outside(1, 10000) {
			check(s, n, 2, 14, api.ErrRange)
		}
		for _, n := range outside(1, 16) {
			check(s, 1, n, 14, api.ErrRange)
		}
		for _, n := range outside(0, 9972) {
			check(s, 1, 2, n, api.ErrRange)
		}
	}
	check(tried(), 6, 2, 14, api.ErrState)
	check(tried(), 5, 2, 14, api.ErrState)
	check(idle(), 4, 2, 14, api.ErrOld)
	check(full(), 3, 2, 14, api.ErrOld)
	check(checked(), 1, 2, 14, api.ErrOld)
	check(access.Store{Running: 10000}, 10000, 1, 0, api.ErrOld)
}

func TestReceived(t *testing.T) {
	last := with(begun(), func(s *access.Store) { s.Pieces[1] = make([]byte, 32) })
	for _, x := range []struct {
		s     access.Store
		index int
		piece []byte
		want  access.Store
	}{
		{begun(), 0, []byte{1, 2}, half()}, {half(), 1, []byte{3}, full()}, {begun(), 1, make([]byte, 32), last}, {half(), 0, []byte{9}, half()}, {half(), 0, []byte{1, 2}, half()}, {full(), 1, []byte{9}, full()}, {checked(), 0, []byte{9}, checked()}, {checked(), 1, make([]byte, 32), checked()},
	} {
		s, e := access.Received(x.s, x.index, x.piece)
		same(t, "Received", all(s, e), all(x.want, api.OK))
	}
	check := func(s access.Store, index int, piece []byte, want api.Errno) {
		t.Helper()
		x, e := access.Received(s, index, piece)
		same(t, "Received of wrong arguments", all(index, x, e), all(index, access.Store{}, want))
	}
	for _, s := range []access.Store{idle(), tried(), {}} {
		check(s, 0, []byte{1}, api.ErrState)
		check(s, -1, nil, api.ErrState)
		check(s, 2, make([]byte, 33), api.ErrState)
	}
	for _, s := range []access.Store{begun(), half(), full(), checked()} {
		for _, i := range outside(0, 1) {
			check(s, i, []byte{1}, api.ErrUnknown)
			check(s, i, nil, api.ErrUnknown)
			check(s, i, make([]byte, 33), api.ErrUnknown)
		}
		check(s, 0, nil, api.ErrEmpty)
		check(s, 1, []byte{}, api.ErrEmpty)
		check(s, 0, make([]byte, 33), api.ErrLarge) // also where a piece is already
		check(s, 1, make([]byte, 100000), api.ErrLarge)
	}
}

// TestCheckedTriedKeptAndBack has the results and errors of all stores.
func TestCheckedTriedKeptAndBack(t *testing.T) {
	kept, back := access.Store{Running: 5, Old: 4}, access.Store{Running: 4, Old: 4}
	wrong := with(full(), func(s *access.Store) { s.Sum = 13 })
	short := with(full(), func(s *access.Store) { s.Pieces[0], s.Sum = nil, 13 })
	first := access.Store{New: 1, Sum: 14, Pieces: pieces(), Checked: true}
	late := access.Store{Running: 4, Old: 9, New: 7, Sum: 14, Pieces: pieces(), Checked: true}
	for _, x := range []struct {
		s                          access.Store
		checked, tried, kept, back any
	}{
		{idle(), api.ErrState, api.ErrState, api.ErrState, api.ErrState}, {access.Store{}, api.ErrState, api.ErrState, api.ErrState, api.ErrState}, {begun(), api.ErrShort, api.ErrState, api.ErrState, api.ErrState}, {half(), api.ErrShort, api.ErrState, api.ErrState, api.ErrState}, {short, api.ErrShort, api.ErrState, api.ErrState, api.ErrState}, {wrong, api.ErrCheck, api.ErrState, api.ErrState, api.ErrState},
		{full(), checked(), api.ErrState, api.ErrState, api.ErrState}, {checked(), checked(), tried(), api.ErrState, api.ErrState}, {tried(), api.ErrState, api.ErrState, kept, back},
		{first, first, with(first, func(s *access.Store) { s.Running, s.Old, s.Trial = 1, 0, true }), api.ErrState, api.ErrState}, {late, late, with(late, func(s *access.Store) { s.Running, s.Old, s.Trial = 7, 4, true }), api.ErrState, api.ErrState},
		{with(tried(), func(s *access.Store) { s.Old = 9 }), api.ErrState, api.ErrState, access.Store{Running: 5, Old: 9}, access.Store{Running: 9, Old: 9}}, {with(tried(), func(s *access.Store) { s.Old = 0 }), api.ErrState, api.ErrState, access.Store{Running: 5}, access.Store{}},
	} {
		check := func(what string, s access.Store, e api.Errno, want any) {
			t.Helper()
			expected := all(want, api.OK)
			if f, ok := want.(api.Errno); ok {
				expected = all(access.Store{}, f)
			}
			same(t, what, all(x.s, s, e), append(all(x.s), expected...))
		}
		s, e := access.Checked(x.s)
		check("Checked", s, e, x.checked)
		s, e = access.Tried(x.s)
		check("Tried", s, e, x.tried)
		s, e = access.Kept(x.s)
		check("Kept", s, e, x.kept)
		s, e = access.Back(x.s)
		check("Back", s, e, x.back)
	}
}

// TestProgramSumByHand sums the bytes of a program one by one.
func TestProgramSumByHand(t *testing.T) {
	r := rand.New(rand.NewSource(5))
	for range 1000 {
		p := program(1+r.Intn(10000), randomPieces(r)...)
		want := 0
		for i, b := range slices.Concat(p.Pieces...) {
			for range int(b) {
				want = (want + i + 1) % 9973
			}
		}
		n, e := access.ProgramSum(p)
		same(t, "ProgramSum", all(n, e), all(want, api.OK))
	}
}
