package link_test

import (
	"fmt"
	"math/rand"
	"slices"
	"testing"

	"kilovar/api"
	"kilovar/link"
)

// P4.5

func TestMessagesComeBack(t *testing.T) {
	r := rand.New(rand.NewSource(5))
	for range 1000 {
		size := 1 + r.Intn(12)
		message := randomBytes(r, r.Intn(min(256, 64*size)+1))
		l, e := link.Cut(r.Intn(256), message, size)
		same(t, "Cut: error", e, api.OK)
		way := slices.Clone(l)
		for range r.Intn(64 - len(l) + 1) {
			way = append(way, l[r.Intn(len(l))])
		}
		way = shuffled(r, way)
		b, e := link.Joined(way)
		same(t, "the message of the frames of a message", all(b, e), all(message, api.OK))

		missing := l[r.Intn(len(l))].Part
		way = slices.DeleteFunc(way, func(f link.Frame) bool { return f.Part == missing })
		want := api.ErrShort
		if len(way) == 0 {
			want = api.ErrEmpty
		}
		b, e = link.Joined(way)
		same(t, "the message of frames of which one is missing", all(b, e), all([]byte{}, want))
	}
}

func TestFramesComeBack(t *testing.T) {
	r := rand.New(rand.NewSource(6))
	for range 3000 {
		f := randomFrame(r)
		b, e := link.Packed(f)
		same(t, "Packed: error", e, api.OK)
		got, e := link.Unpacked(b)
		same(t, "the frame of the block of a frame", all(got, e), all(f, api.OK))
	}
}

// TestBlocksComeBack changes blocks of frames: what is a frame still has this block.
func TestBlocksComeBack(t *testing.T) {
	r := rand.New(rand.NewSource(7))
	for range 3000 {
		b := value(link.Packed(randomFrame(r)))
		b[r.Intn(16)] = byte(r.Intn(256))
		f, e := link.Unpacked(b)
		if e != api.OK {
			same(t, "Unpacked: error", e, api.ErrForm)
			continue
		}
		again, e := link.Packed(f)
		same(t, "the block of the frame of a block", all(again, e), all(b, api.OK))
	}
}

// TestReceiversHaveTheFirstFrames leads senders and receivers through rounds, one by one.
func TestReceiversHaveTheFirstFrames(t *testing.T) {
	r := rand.New(rand.NewSource(8))
	for range 200 {
		queued := randomFrames(r, r.Intn(65)) // some may be the same
		s, got := link.Sender{Queue: queued, Window: 1 + r.Intn(8)}, link.Receiver{}
		for range 40 {
			before := got.Taken
			var e api.Errno
			s, got, e = link.Exchanged(s, got, randomRounds(r, 1))
			same(t, "Exchanged: error", e, api.OK)
			same(t, "both have no error", all(link.CheckSender(s), link.CheckReceiver(got)), all(api.OK, api.OK))
			if got.Taken < before || got.Taken < s.Acked || got.Taken > min(s.Acked+s.Window, len(queued)) {
				t.Fatalf("%d of %d frames are taken, %d acknowledged", got.Taken, len(queued), s.Acked)
			}
			same(t, "the frames that are taken", got, link.Receiver{Taken: got.Taken, Frames: queued[:got.Taken]})
			same(t, "the queue", s.Queue, queued)
		}
	}
}

// TestRoundsByHand leads a receiver through a round frame by frame: Exchanged does the same.
func TestRoundsByHand(t *testing.T) {
	r := rand.New(rand.NewSource(9))
	s, got := sender(64, 0, 5), link.Receiver{}
	for range 40 {
		round := randomRounds(r, 1)[0]
		sent, numbers, e := link.Sent(s)
		same(t, "Sent: error", e, api.OK)
		wantR, answer := got, got.Taken%16
		for i, f := range sent {
			for range map[bool]int{false: 1, true: 2}[slices.Contains(round.Doubled, i)] {
				if slices.Contains(round.Lost, i) {
					continue
				}
				wantR, answer, e = link.Heard(wantR, f, numbers[i])
				same(t, "Heard: error", e, api.OK)
			}
		}
		wantS := s
		if !round.Deaf {
			wantS = value(link.Acknowledged(s, answer))
		}
		s, got, e = link.Exchanged(s, got, rounds(round))
		same(t, "a round", all(s, got, e), all(wantS, wantR, api.OK))
	}
}

func TestAWindowMovesAsAWhole(t *testing.T) {
	for n := range 65 {
		for acked := range n + 1 {
			window := 1 + (n+acked)%8
			end := min(acked+window, n)
			for taken := acked; taken <= end; taken++ {
				s, r, e := link.Exchanged(sender(n, acked, window), receiver(taken), rounds(link.Round{Doubled: ints(0)}))
				same(t, "a round that loses nothing", all(s.Acked, r.Taken, e), all(end, end, api.OK))
			}
		}
	}
}

// everyStations visits all stations with some names, at most so many frames each, and some numbers of slots waited.
func everyStations(names []string, frames int, waited []int, l []link.Station, visit func(l []link.Station)) {
	if len(names) == 0 {
		visit(l)
		return
	}
	for priority := range 4 {
		for n := range frames + 1 {
			for _, w := range waited {
				everyStations(names[1:], frames, waited, append(slices.Clone(l), station(names[0], priority, n, w)), visit)
			}
		}
	}
}

// checkNobodyStarves examines that stations are served within their wait bound, and no frames that are not there.
func checkNobodyStarves(t *testing.T, l []link.Station) {
	t.Helper()
	bound, e := link.Bound(len(l))
	same(t, "Bound: error", e, api.OK)
	w, _, e := link.Served(l, bound)
	same(t, "Served: error", e, api.OK)
	for i, s := range l {
		if s.Frames > 0 && !slices.Contains(w, i) {
			t.Fatalf("of %v the station %d is not served in %d slots", l, i, bound)
		}
	}
	w, left, e := link.Served(l, 256)
	same(t, "Served: error", e, api.OK)
	for i, s := range l {
		n := 0
		for _, first := range w {
			if first == i {
				n++
			}
		}
		if n+left[i].Frames != s.Frames || left[i].Frames > 0 && len(w) < 256 {
			t.Fatalf("of %v the station %d is served %d times", l, i, n)
		}
	}
}

func TestNobodyStarves(t *testing.T) {
	visit := func(l []link.Station) { checkNobodyStarves(t, l) }
	everyStations([]string{"a"}, 3, ints(0, 1, 2, 999, 1000), nil, visit)
	everyStations([]string{"a", "b"}, 4, ints(0, 1, 3, 1000), nil, visit)
	everyStations([]string{"a", "b", "c"}, 2, ints(0, 2, 1000), nil, visit)
	r := rand.New(rand.NewSource(10))
	for range 1000 {
		l := randomStations(r, 1+r.Intn(8))
		for i := range l {
			l[i].Frames *= 1 + r.Intn(16)
		}
		visit(l)
	}
}

// TestTheBoundIsReached has stations of which one is served in the last slot of the bound.
func TestTheBoundIsReached(t *testing.T) {
	l := stations(station("a", 3, 64, 0), station("b", 3, 64, 0), station("c", 3, 64, 0), station("d", 0, 1, 0))
	w := value2(link.Served(l, 7))
	same(t, "the winners", slices.Index(w, 3), 6)
}

// value2 returns the first one of two results whose error another test examines.
func value2[T, U any](x T, _ U, _ api.Errno) T { return x }

func TestFramesAreParsedAsTheyWerePrinted(t *testing.T) {
	r := rand.New(rand.NewSource(11))
	for range 500 {
		l := randomFrames(r, r.Intn(65))
		text, e := link.Print(l)
		same(t, "Print: error", e, api.OK)
		got, i, e := link.Parse(text)
		same(t, "Parse", all(fmt.Sprint(got), i, e), all(fmt.Sprint(l), 0, api.OK))
	}
}
