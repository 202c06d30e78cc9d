package link

import (
	"iter"
	"slices"

	"kilovar/api"
	"kilovar/common"
)

// numbered is a frame on its way, with its number on the link.
type numbered struct {
	Frame
	number int
}

// onItsWay returns a frame with a number, in new memory: what is sent once more is another frame on its way.
func onItsWay(f Frame, number int) numbered {
	x := numbered{Frame: f, number: number}
	x.Bytes = slices.Clone(x.Bytes)
	return x
}

// sends returns how many frames a sender sends.
func (s Sender) sends() int {
	return min(s.Window, len(s.Queue)-s.Acked)
}

// sent returns the frames that a sender sends.
func (s Sender) sent() []numbered {
	var out []numbered
	for i := range s.sends() {
		at := s.Acked + i
		out = append(out, onItsWay(s.Queue[at], at%Numbers))
	}
	return out
}

// after returns a sender after an answer: what is behind all that it sends is an answer to nothing.
func (s Sender) after(answer int) Sender {
	step := (answer + Numbers - s.Acked%Numbers) % Numbers
	if step <= s.sends() {
		s.Acked += step
	}
	return s
}

// answer returns the answer of a receiver, which is the number of the frame that it takes.
func (r Receiver) answer() int {
	return r.Taken % Numbers
}

// heard returns a receiver after a frame. It may change the memory behind the receiver's frames, which must be a copy.
func (r Receiver) heard(x numbered) Receiver {
	if x.number != r.answer() {
		return r
	}
	return Receiver{Taken: r.Taken + 1, Frames: append(r.Frames, x.Frame)}
}

func copyOfAll(l []Frame) []Frame {
	return common.Mapped(l, copyOf)
}

func copyOfSender(s Sender) Sender {
	s.Queue = copyOfAll(s.Queue)
	return s
}

func copyOfReceiver(r Receiver) Receiver {
	r.Frames = copyOfAll(r.Frames)
	return r
}

// Sent returns the frames that a sender sends, and their numbers.
func Sent(s Sender) ([]Frame, []int, api.Errno) {
	if e := CheckSender(s); e != api.OK {
		return nil, nil, e
	}
	sent := s.sent()
	frames := common.Mapped(sent, func(x numbered) Frame { return x.Frame })
	numbers := common.Mapped(sent, func(x numbered) int { return x.number })
	return frames, numbers, api.OK
}

// Heard returns a receiver after a frame, and its answer.
func Heard(r Receiver, f Frame, number int) (Receiver, int, api.Errno) {
	e := common.First(
		CheckReceiver(r),
		CheckFrame(f),
		checkNumber(number),
		common.FailIf(number == r.answer() && r.Taken == MaxQueue, api.ErrMany),
	)
	if e != api.OK {
		return Receiver{}, 0, e
	}
	out := copyOfReceiver(r).heard(onItsWay(f, number))
	return out, out.answer(), api.OK
}

// Acknowledged returns a sender after an answer.
func Acknowledged(s Sender, answer int) (Sender, api.Errno) {
	if e := common.First(CheckSender(s), checkNumber(answer)); e != api.OK {
		return Sender{}, e
	}
	return copyOfSender(s).after(answer), api.OK
}

// Exchanged returns a sender and a receiver after rounds.
func Exchanged(s Sender, r Receiver, l []Round) (Sender, Receiver, api.Errno) {
	if e := common.First(CheckSender(s), CheckReceiver(r), checkRounds(l)); e != api.OK {
		return Sender{}, Receiver{}, e
	}
	if !fit(s, r) {
		return Sender{}, Receiver{}, api.ErrConflict
	}
	s, r = copyOfSender(s), copyOfReceiver(r)
	for _, round := range l {
		for x := range arriving(s.sent(), round) {
			r = r.heard(x)
		}
		if !round.Deaf {
			s = s.after(r.answer())
		}
	}
	return s, r, api.OK
}

// fit reports whether a sender and a receiver, which have no errors, fit. As the window is below Numbers, no frame that such a sender sends is taken for another one.
func fit(s Sender, r Receiver) bool {
	if r.Taken < s.Acked || r.Taken > min(s.Acked+s.Window, len(s.Queue)) {
		return false
	}
	return slices.Equal(common.Mapped(r.Frames, Frame.block), common.Mapped(s.Queue[:r.Taken], Frame.block))
}

// arriving visits the frames that come to the receiver in a round.
func arriving(sent []numbered, round Round) iter.Seq[numbered] {
	return func(yield func(numbered) bool) {
		for i, x := range sent {
			for range round.times(i) {
				if !yield(x) {
					return
				}
			}
		}
	}
}

// times returns how often the frame with an index comes.
func (r Round) times(i int) int {
	switch {
	case slices.Contains(r.Lost, i):
		return 0
	case slices.Contains(r.Doubled, i):
		return 2
	default:
		return 1
	}
}
