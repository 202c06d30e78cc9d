package tone

import (
	"slices"

	"kilovar/api"
	"kilovar/common"
)

// end is what senders and receivers are alike.
type end struct {
	Number int
	Bits   []int
	Next   []int
}

// CheckSender returns the first error of a sender, or OK.
func CheckSender(s Sender) api.Errno {
	return checkEnd(end(s))
}

// CheckReceiver returns the first error of a receiver, or OK.
func CheckReceiver(r Receiver) api.Errno {
	return checkEnd(end(r))
}

func checkEnd(x end) api.Errno {
	e := common.First(common.Within(x.Number, 0, MaxProposal), checkMap(x.Bits))
	if e != api.OK || len(x.Next) == 0 {
		return e
	}
	return checkMapFor(x, x.Next)
}

// checkMapFor returns the error of a map for an end, or OK.
func checkMapFor(x end, bits []int) api.Errno {
	return common.First(common.FailIf(len(bits) != len(x.Bits), api.ErrShape), checkMap(bits))
}

// onward returns a copy of an end with a map that is next.
func onward(x end, next []int) end {
	return end{Number: x.Number, Bits: slices.Clone(x.Bits), Next: slices.Clone(next)}
}

// advanced returns a copy of an end of which the next map has come into use, with the number behind its own.
func advanced(x end) end {
	return end{Number: x.Number + 1, Bits: slices.Clone(x.Next)}
}

// Proposed returns a sender with a proposal.
func Proposed(s Sender, bits []int) (Sender, api.Errno) {
	e := common.First(
		CheckSender(s),
		checkMapFor(end(s), bits),
		common.FailIf(len(s.Next) > 0, api.ErrHeld),
		common.FailIf(s.Number == MaxProposal, api.ErrLimit),
	)
	if e != api.OK {
		return Sender{}, e
	}
	return Sender(onward(end(s), bits)), api.OK
}

// Heard returns a receiver after a proposal, and its answer.
func Heard(r Receiver, number int, bits []int) (Receiver, int, api.Errno) {
	ahead := number - r.Number
	e := common.First(
		CheckReceiver(r),
		common.Within(number, 0, MaxProposal),
		checkMapFor(end(r), bits),
		common.FailIf(ahead > 1, api.ErrNone),
		common.FailIf(ahead == 1 && len(r.Next) > 0 && !slices.Equal(r.Next, bits), api.ErrConflict),
	)
	if e != api.OK {
		return Receiver{}, 0, e
	}
	if ahead == 1 {
		return Receiver(onward(end(r), bits)), number, api.OK
	}
	return Receiver(onward(end(r), r.Next)), r.Number, api.OK
}

// Confirmed returns a sender after an answer.
func Confirmed(s Sender, answer int) (Sender, api.Errno) {
	ahead := answer - s.Number
	e := common.First(
		CheckSender(s),
		common.Within(answer, 0, MaxProposal),
		common.FailIf(ahead == 1 && len(s.Next) == 0, api.ErrNone),
		common.FailIf(ahead > 1, api.ErrConflict),
	)
	if e != api.OK {
		return Sender{}, e
	}
	if ahead == 1 {
		return Sender(advanced(end(s))), api.OK
	}
	return Sender(onward(end(s), s.Next)), api.OK
}

// Taken returns a receiver after a frame, and the map by which it was sent.
func Taken(r Receiver, number int) (Receiver, []int, api.Errno) {
	ahead := number - r.Number
	e := common.First(
		CheckReceiver(r),
		common.Within(number, 0, MaxProposal),
		common.FailIf(ahead < 0, api.ErrOld),
		common.FailIf(ahead > 1 || ahead == 1 && len(r.Next) == 0, api.ErrNone),
	)
	if e != api.OK {
		return Receiver{}, nil, e
	}
	if ahead == 1 {
		return Receiver(advanced(end(r))), slices.Clone(r.Next), api.OK
	}
	return Receiver(onward(end(r), r.Next)), slices.Clone(r.Bits), api.OK
}
