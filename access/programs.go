package access

import (
	"bytes"
	"slices"

	"kilovar/api"
	"kilovar/common"
)

// isMissing reports whether a piece is missing.
func isMissing(piece []byte) bool {
	return len(piece) == 0
}

// sumOf returns the sum of the program with some pieces.
func sumOf(pieces [][]byte) int {
	sum, number := 0, 0
	for _, piece := range pieces {
		for _, b := range piece {
			number++
			sum += int(b) * number
		}
	}
	return sum % (MaxSum + 1)
}

// ProgramSum returns the sum of a program.
func ProgramSum(p Program) (int, api.Errno) {
	if e := common.First(common.Within(p.Version, 1, MaxVersion), common.Some(p.Pieces, MaxPieces, checkPiece)); e != api.OK {
		return 0, e
	}
	return sumOf(p.Pieces), api.OK
}

// isWhole reports whether a store has pieces, and none of them is missing.
func (s Store) isWhole() bool {
	return len(s.Pieces) > 0 && !slices.ContainsFunc(s.Pieces, isMissing)
}

// isIdle reports whether a store has the form of one that has received nothing.
func (s Store) isIdle() bool {
	return s.New == 0 && len(s.Pieces) == 0 && s.Sum == 0 && !s.Checked && !s.Trial
}

// isReceiving reports whether a store has the form of one that receives a version, checked or not.
func (s Store) isReceiving() bool {
	return s.New > s.Running && len(s.Pieces) > 0 && (!s.Checked || s.isWhole()) && !s.Trial
}

// isTrying reports whether a store has the form of one that runs a version on trial.
func (s Store) isTrying() bool {
	return s.New == s.Running && s.New > 0 && s.isWhole() && s.Checked && s.Trial
}

// copied returns the same store in new memory.
func (s Store) copied() Store {
	s.Pieces = common.Mapped(s.Pieces, bytes.Clone)
	return s
}

// checkBegun returns ErrState if a store does not receive a version, or OK.
func (s Store) checkBegun() api.Errno {
	return common.FailIf(!s.isReceiving(), api.ErrState)
}

// checkTrial returns ErrState if a store is not on trial, or OK.
func (s Store) checkTrial() api.Errno {
	return common.FailIf(!s.Trial, api.ErrState)
}

// Begun returns a store that has begun to receive a version.
func Begun(s Store, version, pieces, sum int) (Store, api.Errno) {
	e := common.First(
		CheckStore(s),
		common.Within(version, 1, MaxVersion),
		common.Within(pieces, 1, MaxPieces),
		checkSum(sum),
		common.FailIf(s.Trial, api.ErrState),
		common.FailIf(version <= s.Running, api.ErrOld),
	)
	if e != api.OK {
		return Store{}, e
	}
	out := Store{Running: s.Running, Old: s.Old, New: version, Sum: sum}
	for range pieces {
		out.Pieces = append(out.Pieces, nil)
	}
	return out, api.OK
}

// Received returns a store that has received a piece.
func Received(s Store, index int, piece []byte) (Store, api.Errno) {
	e := common.First(CheckStore(s), s.checkBegun(), common.Index(index, len(s.Pieces)), checkPiece(piece))
	if e != api.OK {
		return Store{}, e
	}
	out := s.copied()
	if isMissing(out.Pieces[index]) {
		out.Pieces[index] = bytes.Clone(piece)
	}
	return out, api.OK
}

// Checked returns a store that was checked.
func Checked(s Store) (Store, api.Errno) {
	if e := common.First(CheckStore(s), s.checkBegun(), common.FailIf(!s.isWhole(), api.ErrShort)); e != api.OK {
		return Store{}, e
	}
	if sumOf(s.Pieces) != s.Sum {
		return Store{}, api.ErrCheck
	}
	out := s.copied()
	out.Checked = true
	return out, api.OK
}

// Tried returns a store whose new version is on trial.
func Tried(s Store) (Store, api.Errno) {
	if e := common.First(CheckStore(s), common.FailIf(!s.Checked || s.Trial, api.ErrState)); e != api.OK {
		return Store{}, e
	}
	out := s.copied()
	out.Running, out.Old, out.Trial = s.New, s.Running, true
	return out, api.OK
}

// Kept returns a store whose trial is over.
func Kept(s Store) (Store, api.Errno) {
	if e := common.First(CheckStore(s), s.checkTrial()); e != api.OK {
		return Store{}, e
	}
	return Store{Running: s.Running, Old: s.Old}, api.OK
}

// Back returns a store whose trial was taken back.
func Back(s Store) (Store, api.Errno) {
	if e := common.First(CheckStore(s), s.checkTrial()); e != api.OK {
		return Store{}, e
	}
	return Store{Running: s.Old, Old: s.Old}, api.OK
}
