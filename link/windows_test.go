package link_test

import (
	"fmt"
	"math"
	"math/rand"
	"slices"
	"testing"

	"kilovar/api"
	"kilovar/link"
)

// P4.2

type senderError struct {
	s link.Sender
	e api.Errno
}

// senderErrors are senders that are none, and their errors.
func senderErrors() []senderError {
	out := []senderError{
		{sender(3, -1, 1), api.ErrRange}, {sender(3, 4, 1), api.ErrRange}, {sender(0, 1, 1), api.ErrRange}, {sender(3, math.MinInt, 1), api.ErrRange}, {sender(64, 65, 8), api.ErrRange},
		{sender(3, 0, 0), api.ErrRange}, {sender(3, 0, 9), api.ErrRange}, {sender(3, 0, -1), api.ErrRange}, {sender(3, 0, math.MaxInt), api.ErrRange}, {link.Sender{}, api.ErrRange},
	}
	for _, x := range framesErrors() {
		out = append(out, senderError{link.Sender{Queue: x.l, Acked: -1, Window: 9}, x.e}, senderError{link.Sender{Queue: x.l, Window: 1}, x.e})
	}
	return out
}

type receiverError struct {
	r link.Receiver
	e api.Errno
}

// receiverErrors are receivers that are none, and their errors.
func receiverErrors() []receiverError {
	out := []receiverError{
		{link.Receiver{Taken: 1}, api.ErrShape}, {link.Receiver{Taken: 2, Frames: queue(3)}, api.ErrShape}, {link.Receiver{Taken: 4, Frames: queue(3)}, api.ErrShape}, {link.Receiver{Frames: queue(1)}, api.ErrShape},
		{link.Receiver{Taken: -1}, api.ErrShape}, {link.Receiver{Taken: math.MinInt, Frames: queue(64)}, api.ErrShape}, {link.Receiver{Taken: 65, Frames: queue(64)}, api.ErrShape}, {link.Receiver{Taken: math.MaxInt, Frames: queue(1)}, api.ErrShape},
	}
	for _, x := range framesErrors() {
		out = append(out, receiverError{link.Receiver{Taken: len(x.l), Frames: x.l}, x.e}, receiverError{link.Receiver{Taken: -1, Frames: x.l}, x.e})
	}
	return out
}

func TestCheckSender(t *testing.T) {
	for _, s := range []link.Sender{sender(0, 0, 1), sender(0, 0, 8), sender(64, 0, 1), sender(64, 64, 8), sender(3, 3, 2)} {
		same(t, "CheckSender", link.CheckSender(s), api.OK)
	}
	for _, x := range senderErrors() {
		same(t, "CheckSender with errors", link.CheckSender(x.s), x.e)
		l, numbers, e := link.Sent(x.s)
		same(t, "Sent by no sender", all(l, numbers, e), all(frames(), ints(), x.e))
		s, e := link.Acknowledged(x.s, 16)
		same(t, "Acknowledged to no sender", all(s, e), all(link.Sender{}, x.e))
		s, r, e := link.Exchanged(x.s, link.Receiver{Taken: 1}, make([]link.Round, 65))
		same(t, "Exchanged by no sender", all(s, r, e), all(link.Sender{}, link.Receiver{}, x.e))
	}
}

func TestCheckReceiver(t *testing.T) {
	for _, n := range ints(0, 1, 16, 63, 64) {
		same(t, "CheckReceiver", link.CheckReceiver(receiver(n)), api.OK)
	}
	for _, x := range receiverErrors() {
		same(t, "CheckReceiver with errors", link.CheckReceiver(x.r), x.e)
		r, n, e := link.Heard(x.r, link.Frame{}, 16)
		same(t, "Heard by no receiver", all(r, n, e), all(link.Receiver{}, 0, x.e))
		s, r, e := link.Exchanged(sender(3, 0, 1), x.r, make([]link.Round, 65))
		same(t, "Exchanged by no receiver", all(s, r, e), all(link.Sender{}, link.Receiver{}, x.e))
	}
}

func TestSent(t *testing.T) {
	for _, x := range []struct {
		n, acked, window int
		from, to         int
		numbers          []int
	}{
		{3, 0, 2, 0, 2, ints(0, 1)}, {3, 2, 2, 2, 3, ints(2)}, {3, 3, 2, 3, 3, nil}, {0, 0, 8, 0, 0, nil}, {3, 0, 8, 0, 3, ints(0, 1, 2)}, {3, 1, 1, 1, 2, ints(1)},
		{17, 15, 4, 15, 17, ints(15, 0)}, {64, 0, 8, 0, 8, ints(0, 1, 2, 3, 4, 5, 6, 7)}, {64, 12, 8, 12, 20, ints(12, 13, 14, 15, 0, 1, 2, 3)}, {64, 56, 8, 56, 64, ints(8, 9, 10, 11, 12, 13, 14, 15)}, {64, 63, 8, 63, 64, ints(15)}, {64, 64, 8, 64, 64, nil}, {64, 48, 1, 48, 49, ints(0)},
	} {
		l, numbers, e := link.Sent(sender(x.n, x.acked, x.window))
		same(t, "Sent", all(l, numbers, e), all(queue(x.n)[x.from:x.to], x.numbers, api.OK))
	}
}

// TestHeard tells receivers with all numbers of frames that they have taken all numbers: only the next one is taken.
func TestHeard(t *testing.T) {
	f := frame(1, 0, 1, 9)
	for taken := range 65 {
		for number := range 16 {
			next := number == taken%16
			r, answer, e := link.Heard(receiver(taken), f, number)
			switch {
			case next && taken == 64:
				same(t, "Heard by a receiver that is full", all(r, answer, e), all(link.Receiver{}, 0, api.ErrMany))
			case next:
				same(t, "Heard", all(r, answer, e), all(link.Receiver{Taken: taken + 1, Frames: append(queue(taken), f)}, (taken+1)%16, api.OK))
			default:
				same(t, "Heard, not the next one", all(r, answer, e), all(receiver(taken), taken%16, api.OK))
			}
		}
	}
}

func TestHeardWithErrors(t *testing.T) {
	for _, x := range frameErrors {
		for _, n := range ints(0, 64) {
			r, answer, e := link.Heard(receiver(n), x.f, 0)
			same(t, "Heard of no frame", all(r, answer, e), all(link.Receiver{}, 0, x.e))
			r, answer, e = link.Heard(receiver(n), x.f, 16)
			same(t, "Heard of no frame and no number", all(r, answer, e), all(link.Receiver{}, 0, x.e))
		}
	}
	for _, number := range ints(-1, 16, -16, 64, math.MinInt, math.MaxInt) {
		for _, n := range ints(0, 15, 16, 64) {
			r, answer, e := link.Heard(receiver(n), frame(0, 0, 1), number)
			same(t, "Heard of no number", all(r, answer, e), all(link.Receiver{}, 0, api.ErrRange))
		}
	}
}

// TestAcknowledged gives all answers to senders: an answer counts that is the number of one of the frames that are sent, or the one behind them.
func TestAcknowledged(t *testing.T) {
	for acked := range 21 {
		for window := 1; window <= 8; window++ {
			for answer := range 16 {
				want := acked
				for at := acked; at <= min(acked+window, 20); at++ {
					if at%16 == answer {
						want = at
					}
				}
				s, e := link.Acknowledged(sender(20, acked, window), answer)
				same(t, "Acknowledged", all(s, e), all(sender(20, want, window), api.OK))
			}
		}
	}
	for _, answer := range ints(-1, 16, 17, math.MinInt, math.MaxInt) {
		s, e := link.Acknowledged(sender(20, 16, 8), answer)
		same(t, "Acknowledged with no answer", all(s, e), all(link.Sender{}, api.ErrRange))
	}
}

func TestAcknowledgedAsInTheExample(t *testing.T) {
	for answer, acked := range map[int]int{1: 17, 0: 16, 15: 15, 3: 15, 2: 15, 14: 15} {
		s, e := link.Acknowledged(sender(17, 15, 4), answer)
		same(t, "Acknowledged", all(s, e), all(sender(17, acked, 4), api.OK))
	}
}

func TestExchanged(t *testing.T) {
	for _, x := range []struct {
		n, acked, window, taken int
		l                       []link.Round
		wantAcked, wantTaken    int
	}{
		{3, 0, 2, 0, nil, 0, 0},
		{3, 0, 2, 0, rounds(link.Round{Lost: ints(0)}), 0, 0},
		{3, 0, 2, 0, rounds(link.Round{Doubled: ints(0, 1), Deaf: true}), 0, 2},
		{3, 0, 2, 0, rounds(link.Round{Lost: ints(0)}, link.Round{Doubled: ints(0, 1), Deaf: true}, link.Round{}), 2, 2},
		{3, 0, 2, 0, rounds(link.Round{Lost: ints(0)}, link.Round{Doubled: ints(0, 1), Deaf: true}, link.Round{}, link.Round{}), 3, 3},
		{3, 0, 2, 2, rounds(link.Round{Lost: ints(0, 1)}), 2, 2}, // the answer comes though no frame does
		{3, 0, 3, 0, rounds(link.Round{Lost: ints(1)}), 1, 1},    // what is behind a lost one is not taken
		{3, 0, 3, 0, rounds(link.Round{Lost: ints(1)}, link.Round{}), 3, 3},
		{3, 0, 3, 0, rounds(link.Round{Lost: ints(0), Doubled: ints(0, 0)}), 0, 0}, // a lost one does not come twice
		{3, 0, 2, 0, rounds(link.Round{Lost: ints(2, 7), Doubled: ints(3)}), 2, 2}, // others than are sent
		{3, 1, 2, 1, rounds(link.Round{Lost: ints(0, 0)}), 1, 1},                   // the index counts what is sent, not the queue
		{3, 1, 2, 1, rounds(link.Round{Lost: ints(1)}), 2, 2},
		{3, 0, 8, 0, rounds(link.Round{}), 3, 3}, {3, 3, 8, 3, rounds(link.Round{}, link.Round{Doubled: ints(0)}), 3, 3}, {0, 0, 1, 0, rounds(link.Round{}), 0, 0},
		{64, 0, 8, 0, make([]link.Round, 8), 64, 64}, {64, 0, 8, 0, make([]link.Round, 7), 56, 56}, {64, 0, 1, 0, make([]link.Round, 64), 64, 64}, {64, 0, 8, 0, repeated(link.Round{Deaf: true}, 64), 0, 8},
		{64, 56, 8, 64, rounds(link.Round{Doubled: ints(0, 1, 2, 3, 4, 5, 6, 7)}), 64, 64}, {64, 56, 8, 64, rounds(link.Round{Deaf: true}), 56, 64},
		{17, 15, 4, 16, rounds(link.Round{Doubled: ints(0, 1)}), 17, 17}, {17, 15, 4, 16, rounds(link.Round{Lost: ints(1)}), 16, 16},
	} {
		s, r, e := link.Exchanged(sender(x.n, x.acked, x.window), receiver(x.taken), x.l)
		same(t, "Exchanged", all(s, r, e), all(sender(x.n, x.wantAcked, x.window), receiver(x.wantTaken), api.OK))
	}
}

// exchanged computes how many frames are acknowledged and taken after rounds, without numbers that come around.
func exchanged(s link.Sender, taken int, l []link.Round) (int, int) {
	acked := s.Acked
	for _, round := range l {
		for i := acked; i < min(acked+s.Window, len(s.Queue)); i++ {
			if !slices.Contains(round.Lost, i-acked) && i == taken {
				taken++
			}
		}
		if !round.Deaf {
			acked = taken
		}
	}
	return acked, taken
}

func TestExchangedInManyRounds(t *testing.T) {
	r := rand.New(rand.NewSource(2))
	for range 1000 {
		n := r.Intn(65)
		s := sender(n, r.Intn(n+1), 1+r.Intn(8))
		taken := s.Acked + r.Intn(min(s.Window, n-s.Acked)+1)
		l := randomRounds(r, r.Intn(30))
		acked, took := exchanged(s, taken, l)
		gotS, gotR, e := link.Exchanged(s, receiver(taken), l)
		same(t, "Exchanged", all(gotS, gotR, e), all(sender(n, acked, s.Window), receiver(took), api.OK))
	}
}

func TestExchangedOfWhatDoesNotFit(t *testing.T) {
	with := func(n, at int, f link.Frame) link.Receiver {
		r := receiver(n)
		r.Frames[at] = f
		return r
	}
	for _, x := range []struct {
		s link.Sender
		r link.Receiver
	}{
		{sender(3, 1, 2), receiver(0)}, {sender(3, 3, 2), receiver(2)}, // fewer than acknowledged
		{sender(5, 0, 2), receiver(3)}, {sender(9, 5, 3), receiver(9)}, {sender(64, 8, 8), receiver(17)}, {sender(64, 0, 8), receiver(16)}, // more than were sent
		{sender(3, 0, 8), receiver(4)}, {sender(0, 0, 1), receiver(1)}, {sender(3, 3, 1), receiver(4)}, // more than were queued
		{sender(3, 0, 2), with(1, 0, queue(2)[1])}, {sender(3, 0, 2), with(2, 1, queue(1)[0])}, // others than were queued
		{sender(3, 2, 2), with(2, 0, frame(201, 0, 64, 0, 0))}, {sender(3, 2, 2), with(2, 0, frame(200, 1, 64, 0, 0))}, {sender(3, 2, 2), with(2, 0, frame(200, 0, 63, 0, 0))},
		{sender(3, 2, 2), with(2, 0, frame(200, 0, 64, 0))}, {sender(3, 2, 2), with(2, 0, frame(200, 0, 64, 0, 0, 0))}, {sender(3, 2, 2), with(2, 1, frame(201, 1, 64, 1, 1))},
	} {
		for _, l := range [][]link.Round{nil, rounds(link.Round{})} {
			s, r, e := link.Exchanged(x.s, x.r, l)
			same(t, "Exchanged of what does not fit", all(s, r, e), all(link.Sender{}, link.Receiver{}, api.ErrConflict))
		}
	}
	for _, x := range [][4]int{{3, 0, 2, 0}, {3, 0, 2, 2}, {3, 1, 2, 1}, {3, 1, 2, 3}, {3, 3, 8, 3}, {64, 8, 8, 16}, {64, 64, 8, 64}, {0, 0, 1, 0}} {
		s, r, e := link.Exchanged(sender(x[0], x[1], x[2]), receiver(x[3]), nil)
		same(t, "Exchanged in no round", all(s, r, e), all(sender(x[0], x[1], x[2]), receiver(x[3]), api.OK))
	}
}

func TestRoundsWithErrors(t *testing.T) {
	for _, x := range []struct {
		l []link.Round
		e api.Errno
	}{
		{make([]link.Round, 65), api.ErrMany}, {repeated(link.Round{Lost: ints(8)}, 65), api.ErrMany},
		{rounds(link.Round{Lost: ints(8)}), api.ErrRange}, {rounds(link.Round{Lost: ints(-1)}), api.ErrRange}, {rounds(link.Round{Lost: ints(0, 7, 8)}), api.ErrRange}, {rounds(link.Round{Doubled: ints(8)}), api.ErrRange}, {rounds(link.Round{Doubled: ints(7, -1)}), api.ErrRange},
		{rounds(link.Round{}, link.Round{Lost: ints(math.MaxInt)}), api.ErrRange}, {rounds(link.Round{}, link.Round{Doubled: ints(math.MinInt), Deaf: true}), api.ErrRange},
	} {
		for _, r := range []link.Receiver{receiver(0), receiver(3)} { // one that fits, and one that does not
			s, r, e := link.Exchanged(sender(3, 0, 1), r, x.l)
			same(t, "Exchanged in wrong rounds", all(fmt.Sprint(x.l), s, r, e), all(fmt.Sprint(x.l), link.Sender{}, link.Receiver{}, x.e))
		}
	}
	s, r, e := link.Exchanged(sender(3, 0, 1), receiver(0), rounds(link.Round{Lost: repeated(7, 1000), Doubled: repeated(0, 1000)}))
	same(t, "Exchanged in a round of many indices", all(s, r, e), all(sender(3, 1, 1), receiver(1), api.OK))
}
