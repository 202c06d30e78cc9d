package tone_test

import (
	"testing"

	"kilovar/api"
	"kilovar/tone"
)

// P2.4

func sender(number int, bits, next []int) tone.Sender {
	return tone.Sender{Number: number, Bits: bits, Next: next}
}

func receiver(number int, bits, next []int) tone.Receiver {
	return tone.Receiver{Number: number, Bits: bits, Next: next}
}

// endErrors are ends with a number, a map in use and a next map, and their errors.
var endErrors = []struct {
	number     int
	bits, next []int
	e          api.Errno
}{
	{4, ints(1), nil, api.OK}, {0, ints(0), ints(0), api.OK}, {1000000, ints(6), ints(6), api.OK}, {4, ints(1), ints(), api.OK},
	{0, repeated(6, 8), repeated(0, 8), api.OK},
	{-1, ints(1), nil, api.ErrRange}, {1000001, ints(1), nil, api.ErrRange}, {-1, nil, nil, api.ErrRange},
	{4, nil, nil, api.ErrEmpty}, {4, nil, ints(1), api.ErrEmpty}, {4, repeated(7, 9), nil, api.ErrMany}, {4, repeated(1, 9), repeated(1, 9), api.ErrMany},
	{4, ints(7), nil, api.ErrRange}, {4, ints(1, -1), nil, api.ErrRange}, {4, ints(7), ints(1, 1), api.ErrRange},
	{4, ints(1), ints(1, 1), api.ErrShape}, {4, ints(1, 1), ints(7), api.ErrShape}, {4, ints(1), repeated(1, 9), api.ErrShape},
	{4, ints(1), ints(7), api.ErrRange}, {4, ints(1, 1), ints(1, -1), api.ErrRange},
}

func TestCheckEnds(t *testing.T) {
	for _, x := range endErrors {
		same(t, "CheckSender", tone.CheckSender(sender(x.number, x.bits, x.next)), x.e)
		same(t, "CheckReceiver", tone.CheckReceiver(receiver(x.number, x.bits, x.next)), x.e)
		if x.e == api.OK {
			continue
		}
		s, e := tone.Proposed(sender(x.number, x.bits, x.next), nil)
		same(t, "Proposed by no sender", all(s, e), all(tone.Sender{}, x.e))
		s, e = tone.Confirmed(sender(x.number, x.bits, x.next), -1)
		same(t, "Confirmed to no sender", all(s, e), all(tone.Sender{}, x.e))
		r, n, e := tone.Heard(receiver(x.number, x.bits, x.next), 1000001, nil)
		same(t, "Heard by no receiver", all(r, n, e), all(tone.Receiver{}, 0, x.e))
		r, l, e := tone.Taken(receiver(x.number, x.bits, x.next), 1000001)
		same(t, "Taken by no receiver", all(r, l, e), all(tone.Receiver{}, ints(), x.e))
	}
}

// mapsForEnds are maps for an end with two carriers, and their errors.
var mapsForEnds = []struct {
	bits []int
	e    api.Errno
}{{nil, api.ErrShape}, {ints(1), api.ErrShape}, {ints(7, 1, 1), api.ErrShape}, {repeated(7, 9), api.ErrShape}, {ints(7, 1), api.ErrRange}, {ints(1, -1), api.ErrRange}}

func TestProposed(t *testing.T) {
	for _, x := range []struct {
		s    tone.Sender
		bits []int
		want tone.Sender
		e    api.Errno
	}{
		{sender(4, ints(1), nil), ints(2), sender(4, ints(1), ints(2)), api.OK},
		{sender(4, ints(1), ints()), ints(1), sender(4, ints(1), ints(1)), api.OK},
		{sender(4, ints(1), nil), ints(0), sender(4, ints(1), ints(0)), api.OK},
		{sender(999999, ints(1), nil), ints(2), sender(999999, ints(1), ints(2)), api.OK},
		{sender(4, ints(1), ints(2)), ints(3), tone.Sender{}, api.ErrHeld},
		{sender(4, ints(1), ints(2)), ints(2), tone.Sender{}, api.ErrHeld},
		{sender(4, ints(1), ints(0)), ints(2), tone.Sender{}, api.ErrHeld},
		{sender(1000000, ints(1), nil), ints(2), tone.Sender{}, api.ErrLimit},
		{sender(1000000, ints(1), ints(2)), ints(2), tone.Sender{}, api.ErrHeld},
	} {
		s, e := tone.Proposed(x.s, x.bits)
		same(t, "Proposed", all(s, e), all(x.want, x.e))
	}
	for _, x := range mapsForEnds {
		s, e := tone.Proposed(sender(1000000, ints(1, 1), ints(2, 2)), x.bits)
		same(t, "Proposed of no map", all(s, e), all(tone.Sender{}, x.e))
	}
}

func TestHeard(t *testing.T) {
	fresh, told := receiver(4, ints(1), nil), receiver(4, ints(1), ints(2))
	for _, x := range []struct {
		r      tone.Receiver
		number int
		bits   []int
		want   tone.Receiver
		answer int
		e      api.Errno
	}{
		{fresh, 5, ints(2), told, 5, api.OK},
		{fresh, 5, ints(0), receiver(4, ints(1), ints(0)), 5, api.OK},
		{fresh, 4, ints(6), fresh, 4, api.OK},
		{fresh, 3, ints(6), fresh, 4, api.OK},
		{fresh, 0, ints(6), fresh, 4, api.OK},
		{fresh, 6, ints(2), tone.Receiver{}, 0, api.ErrNone},
		{fresh, 1000000, ints(2), tone.Receiver{}, 0, api.ErrNone},
		{told, 5, ints(2), told, 5, api.OK},
		{told, 5, ints(3), tone.Receiver{}, 0, api.ErrConflict},
		{told, 4, ints(3), told, 4, api.OK},
		{told, 0, ints(3), told, 4, api.OK},
		{told, 6, ints(3), tone.Receiver{}, 0, api.ErrNone},
		{receiver(4, ints(1), ints(0)), 5, ints(2), tone.Receiver{}, 0, api.ErrConflict},
		{receiver(1000000, ints(1), nil), 1000000, ints(2), receiver(1000000, ints(1), nil), 1000000, api.OK},
		{receiver(999999, ints(1), nil), 1000000, ints(2), receiver(999999, ints(1), ints(2)), 1000000, api.OK},
		{fresh, -1, ints(2), tone.Receiver{}, 0, api.ErrRange},
		{fresh, 1000001, nil, tone.Receiver{}, 0, api.ErrRange},
		{receiver(1000000, ints(1), ints(2)), 1000001, ints(3), tone.Receiver{}, 0, api.ErrRange},
	} {
		r, n, e := tone.Heard(x.r, x.number, x.bits)
		same(t, "Heard", all(r, n, e), all(x.want, x.answer, x.e))
	}
	for _, x := range mapsForEnds {
		for _, number := range ints(3, 4, 5, 6) {
			r, n, e := tone.Heard(receiver(4, ints(1, 1), ints(2, 2)), number, x.bits)
			same(t, "Heard of no map", all(r, n, e), all(tone.Receiver{}, 0, x.e))
		}
	}
}

func TestConfirmed(t *testing.T) {
	idle, proposing := sender(4, ints(1), nil), sender(4, ints(1), ints(2))
	for _, x := range []struct {
		s      tone.Sender
		answer int
		want   tone.Sender
		e      api.Errno
	}{
		{proposing, 5, sender(5, ints(2), nil), api.OK},
		{proposing, 4, proposing, api.OK},
		{proposing, 0, proposing, api.OK},
		{proposing, 6, tone.Sender{}, api.ErrConflict},
		{proposing, 1000000, tone.Sender{}, api.ErrConflict},
		{idle, 4, idle, api.OK},
		{idle, 3, idle, api.OK},
		{idle, 5, tone.Sender{}, api.ErrNone},
		{idle, 6, tone.Sender{}, api.ErrConflict},
		{sender(4, ints(1), ints(0)), 5, sender(5, ints(0), nil), api.OK},
		{sender(1000000, ints(1), nil), 1000000, sender(1000000, ints(1), nil), api.OK},
		{sender(999999, ints(1), ints(2)), 1000000, sender(1000000, ints(2), nil), api.OK},
		{idle, -1, tone.Sender{}, api.ErrRange},
		{idle, 1000001, tone.Sender{}, api.ErrRange},
		{sender(1000000, ints(1), ints(2)), 1000001, tone.Sender{}, api.ErrRange},
		{sender(1000000, ints(1), nil), 1000001, tone.Sender{}, api.ErrRange},
	} {
		s, e := tone.Confirmed(x.s, x.answer)
		same(t, "Confirmed", all(s, e), all(x.want, x.e))
	}
}

func TestTaken(t *testing.T) {
	fresh, told := receiver(4, ints(1), nil), receiver(4, ints(1), ints(2))
	for _, x := range []struct {
		r      tone.Receiver
		number int
		want   tone.Receiver
		bits   []int
		e      api.Errno
	}{
		{told, 5, receiver(5, ints(2), nil), ints(2), api.OK},
		{told, 4, told, ints(1), api.OK},
		{fresh, 4, fresh, ints(1), api.OK},
		{receiver(4, ints(1), ints(0)), 5, receiver(5, ints(0), nil), ints(0), api.OK},
		{receiver(5, ints(2), nil), 4, tone.Receiver{}, nil, api.ErrOld},
		{told, 3, tone.Receiver{}, nil, api.ErrOld},
		{told, 0, tone.Receiver{}, nil, api.ErrOld},
		{fresh, 5, tone.Receiver{}, nil, api.ErrNone},
		{fresh, 6, tone.Receiver{}, nil, api.ErrNone},
		{told, 6, tone.Receiver{}, nil, api.ErrNone},
		{told, 1000000, tone.Receiver{}, nil, api.ErrNone},
		{receiver(1000000, ints(1), ints(2)), 1000000, receiver(1000000, ints(1), ints(2)), ints(1), api.OK},
		{told, -1, tone.Receiver{}, nil, api.ErrRange},
		{told, 1000001, tone.Receiver{}, nil, api.ErrRange},
		{receiver(1000000, ints(1), nil), 1000001, tone.Receiver{}, nil, api.ErrRange},
	} {
		r, l, e := tone.Taken(x.r, x.number)
		same(t, "Taken", all(r, l, e), all(x.want, x.bits, x.e))
	}
}
