package link_test

import (
	"math"
	"math/rand"
	"testing"

	"kilovar/api"
	"kilovar/link"
)

// P4.1

func TestCheckFrame(t *testing.T) {
	for _, f := range frames(frame(0, 0, 1), frame(255, 63, 64), frame(255, 0, 64, make([]byte, 12)...), frame(9, 1, 2, 7), frame(9, 0, 2), frame(0, 0, 1, 255)) {
		same(t, "CheckFrame", link.CheckFrame(f), api.OK)
	}
	for _, x := range frameErrors {
		same(t, "CheckFrame with errors", all(x.f, link.CheckFrame(x.f)), all(x.f, x.e))
	}
}

func TestCut(t *testing.T) {
	for _, x := range []struct {
		number  int
		message []byte
		size    int
		want    []link.Frame
	}{
		{9, []byte{5, 6, 7}, 2, frames(frame(9, 0, 2, 5, 6), frame(9, 1, 2, 7))},
		{9, []byte{5, 6, 7, 8}, 2, frames(frame(9, 0, 2, 5, 6), frame(9, 1, 2, 7, 8))}, // the last one has as many as the others
		{255, []byte{5, 6, 7}, 3, frames(frame(255, 0, 1, 5, 6, 7))},
		{0, []byte{5, 6, 7}, 12, frames(frame(0, 0, 1, 5, 6, 7))},
		{1, []byte{5, 6, 7}, 1, frames(frame(1, 0, 3, 5), frame(1, 1, 3, 6), frame(1, 2, 3, 7))},
		{0, []byte{255}, 1, frames(frame(0, 0, 1, 255))},
		{3, nil, 1, frames(frame(3, 0, 1))}, {3, []byte{}, 12, frames(frame(3, 0, 1))},
	} {
		l, e := link.Cut(x.number, x.message, x.size)
		same(t, "Cut", all(l, e), all(x.want, api.OK))
	}
}

func TestCutOfAllLengths(t *testing.T) {
	r := rand.New(rand.NewSource(1))
	for length := range 257 {
		message := randomBytes(r, length)
		for size := 1; size <= 12; size++ {
			var want []link.Frame
			for from := 0; from < length || from == 0; from += size {
				want = append(want, frame(length%256, len(want), 0, message[from:min(from+size, length)]...))
			}
			for i := range want {
				want[i].Parts = len(want)
			}
			l, e := link.Cut(length%256, message, size)
			if len(want) > 64 {
				same(t, "Cut into too many", all(l, e), all(frames(), api.ErrMany))
				continue
			}
			same(t, "Cut", all(l, e), all(want, api.OK))
		}
	}
}

func TestCutWithErrors(t *testing.T) {
	for _, x := range []struct {
		number  int
		message []byte
		size    int
		e       api.Errno
	}{
		{-1, nil, 1, api.ErrRange}, {256, nil, 1, api.ErrRange}, {math.MinInt, nil, 1, api.ErrRange}, {256, make([]byte, 257), 0, api.ErrRange},
		{0, make([]byte, 257), 12, api.ErrMany}, {0, make([]byte, 257), 0, api.ErrMany}, {0, make([]byte, 100000), 12, api.ErrMany},
		{0, nil, 0, api.ErrRange}, {0, nil, 13, api.ErrRange}, {0, nil, -1, api.ErrRange}, {0, make([]byte, 256), 0, api.ErrRange}, {0, make([]byte, 256), math.MinInt, api.ErrRange}, {0, make([]byte, 256), math.MaxInt, api.ErrRange},
		{0, make([]byte, 65), 1, api.ErrMany}, {0, make([]byte, 129), 2, api.ErrMany}, {0, make([]byte, 256), 3, api.ErrMany},
	} {
		l, e := link.Cut(x.number, x.message, x.size)
		same(t, "Cut with errors", all(l, e), all(frames(), x.e))
	}
	for size, length := range map[int]int{1: 64, 2: 128, 3: 192, 4: 256} {
		l, e := link.Cut(0, make([]byte, length), size)
		same(t, "Cut into as many as there may be", all(len(l), e), all(64, api.OK))
	}
}

func TestJoined(t *testing.T) {
	a, b := frame(9, 0, 2, 5, 6), frame(9, 1, 2, 7)
	long := make([]link.Frame, 64)
	for i := range long {
		long[i] = frame(0, 63-i, 64, repeated(byte(63-i), 12)...)
	}
	for _, x := range []struct {
		l    []link.Frame
		want []byte
	}{
		{frames(a, b), []byte{5, 6, 7}}, {frames(b, a), []byte{5, 6, 7}}, {frames(b, a, a), []byte{5, 6, 7}}, {frames(b, a, b, a, a), []byte{5, 6, 7}},
		{repeated(frame(0, 0, 1), 64), nil}, {frames(frame(3, 0, 1, 1, 2)), []byte{1, 2}},
		{frames(frame(3, 2, 3, 3), frame(3, 0, 3), frame(3, 1, 3, 1, 2)), []byte{1, 2, 3}}, // the lengths need not be those of a message that was cut
		{frames(frame(3, 2, 3), frame(3, 0, 3), frame(3, 1, 3)), nil},
	} {
		b, e := link.Joined(x.l)
		same(t, "Joined", all(b, e), all(x.want, api.OK))
	}
	whole, e := link.Joined(long) // more than a message may have
	same(t, "Joined of the most bytes", all(len(whole), whole[0], whole[11], whole[12], whole[767], e), all(768, 0, 0, 1, 63, api.OK))
}

func TestJoinedWithErrors(t *testing.T) {
	a, b := frame(9, 0, 2, 5, 6), frame(9, 1, 2, 7)
	for _, x := range framesErrors() {
		m, e := link.Joined(x.l)
		same(t, "Joined of no frames", all(m, e), all([]byte{}, x.e))
	}
	for _, x := range []struct {
		l []link.Frame
		e api.Errno
	}{
		{nil, api.ErrEmpty}, {frames(), api.ErrEmpty},
		{frames(a, frame(8, 1, 2, 7)), api.ErrConflict}, {frames(a, b, frame(8, 1, 2, 7)), api.ErrConflict}, {frames(a, frame(9, 1, 3, 7)), api.ErrConflict}, {frames(a, b, frame(9, 0, 1, 5, 6)), api.ErrConflict},
		{frames(a, b, frame(9, 1, 2, 8)), api.ErrConflict}, {frames(a, b, frame(9, 1, 2)), api.ErrConflict}, {frames(a, b, frame(9, 1, 2, 7, 0)), api.ErrConflict}, {frames(a, frame(9, 0, 2, 6, 5), b), api.ErrConflict}, {frames(frame(9, 0, 2), a, b), api.ErrConflict},
		{frames(b, frame(8, 1, 2, 7)), api.ErrConflict}, {frames(b, frame(9, 1, 2, 8)), api.ErrConflict}, // before a missing index
		{frames(frame(1, 0, 3), frame(1, 2, 3), frame(2, 1, 3)), api.ErrConflict},
		{frames(a), api.ErrShort}, {frames(b), api.ErrShort}, {frames(a, a), api.ErrShort}, {frames(b, b, b), api.ErrShort}, {frames(frame(0, 63, 64)), api.ErrShort},
		{frames(frame(9, 0, 3), frame(9, 2, 3)), api.ErrShort}, {frames(frame(9, 1, 3), frame(9, 2, 3)), api.ErrShort}, {frames(frame(9, 1, 3), frame(9, 0, 3)), api.ErrShort},
	} {
		m, e := link.Joined(x.l)
		same(t, "Joined with errors", all(x.l, m, e), all(x.l, []byte{}, x.e))
	}
}

func TestPacked(t *testing.T) {
	for _, x := range []struct {
		f    link.Frame
		want api.Block
	}{
		{frame(9, 1, 2, 7), api.Block{9, 1, 2, 1, 7}}, {frame(0, 0, 1), api.Block{0, 0, 1}}, {frame(255, 63, 64, 0, 255), api.Block{255, 63, 64, 2, 0, 255}},
		{frame(1, 2, 3, 1, 2, 3, 4, 5, 6, 7, 8, 9, 10, 11, 12), api.Block{1, 2, 3, 12, 1, 2, 3, 4, 5, 6, 7, 8, 9, 10, 11, 12}},
	} {
		b, e := link.Packed(x.f)
		same(t, "Packed", all(b, e), all(x.want, api.OK))
		f, e := link.Unpacked(x.want)
		same(t, "Unpacked", all(f, e), all(x.f, api.OK))
	}
	for _, x := range frameErrors {
		b, e := link.Packed(x.f)
		same(t, "Packed of no frame", all(b, e), all(api.Block{}, x.e))
	}
}

func TestUnpackedWithErrors(t *testing.T) {
	for _, b := range []api.Block{
		{}, {9, 1, 0}, {9, 0, 65}, {9, 0, 255}, {9, 1, 1}, {9, 2, 2, 1, 7}, {9, 255, 64}, {9, 64, 64}, {9, 64, 65},
		{9, 1, 2, 13, 7}, {9, 1, 2, 255, 7}, {9, 1, 2, 16, 7}, {9, 1, 2, 13, 1, 2, 3, 4, 5, 6, 7, 8, 9, 10, 11, 12},
		{9, 1, 2, 1, 7, 1}, {9, 1, 2, 0, 7}, {9, 1, 2, 1, 7, 15: 1}, {9, 1, 2, 0, 15: 255}, {9, 1, 2, 11, 15: 1},
	} {
		f, e := link.Unpacked(b)
		same(t, "Unpacked with errors", all(b, f, e), all(b, link.Frame{}, api.ErrForm))
	}
}

// TestEveryHeader compares blocks with all values of each byte before those of the frame with what a frame may be.
func TestEveryHeader(t *testing.T) {
	for at := range 4 {
		for x := range 256 {
			b := api.Block{200, 3, 7, 12}
			b[at] = byte(x)
			is := at == 0 || at == 1 && x < 7 || at == 2 && x >= 4 && x <= 64 || at == 3 && x <= 12
			f, e := link.Unpacked(b)
			if !is {
				same(t, "Unpacked of no frame", all(b, f, e), all(b, link.Frame{}, api.ErrForm))
				continue
			}
			same(t, "Unpacked", all(f, e), all(frame(int(b[0]), int(b[1]), int(b[2]), make([]byte, b[3])...), api.OK))
		}
	}
}
