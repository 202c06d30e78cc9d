package link_test

import (
	"fmt"
	"math"
	"math/rand"
	"slices"
	"testing"

	"kilovar/api"
	"kilovar/link"
)

// same compares results with the expected ones; nil and empty lists are equal.
func same(t *testing.T, what string, got, want any) {
	t.Helper()
	if g, w := fmt.Sprintf("%+v", got), fmt.Sprintf("%+v", want); g != w {
		t.Errorf("%s: got %s, want %s", what, g, w)
	}
}

// all returns all results of a call in one.
func all(results ...any) []any { return results }

// value returns a result whose error another test examines.
func value[T any](x T, _ api.Errno) T { return x }

func ints(l ...int) []int { return l }

func repeated[T any](x T, n int) []T {
	var out []T
	for range n {
		out = append(out, x)
	}
	return out
}

func frame(message, part, parts int, bytes ...byte) link.Frame {
	return link.Frame{Message: message, Part: part, Parts: parts, Bytes: bytes}
}

func frames(l ...link.Frame) []link.Frame { return l }

// queue returns n frames, no two of which are the same.
func queue(n int) []link.Frame {
	var out []link.Frame
	for i := range n {
		out = append(out, frame(200+i%3, i, 64, byte(i), 0))
	}
	return out
}

func sender(n, acked, window int) link.Sender {
	return link.Sender{Queue: queue(n), Acked: acked, Window: window}
}

func receiver(taken int) link.Receiver {
	return link.Receiver{Taken: taken, Frames: queue(taken)}
}

func rounds(l ...link.Round) []link.Round { return l }

func station(name string, priority, frames, waited int) link.Station {
	return link.Station{Name: name, Priority: priority, Frames: frames, Waited: waited}
}

func stations(l ...link.Station) []link.Station { return l }

// xyz are the stations of the example.
func xyz() []link.Station {
	return stations(station("x", 3, 2, 0), station("y", 0, 1, 0), station("z", 1, 1, 0))
}

func randomBytes(r *rand.Rand, n int) []byte {
	out := make([]byte, n)
	r.Read(out)
	return out
}

func randomFrame(r *rand.Rand) link.Frame {
	parts := 1 + r.Intn(64)
	return frame(r.Intn(256), r.Intn(parts), parts, randomBytes(r, r.Intn(13))...)
}

func randomFrames(r *rand.Rand, n int) []link.Frame {
	var out []link.Frame
	for range n {
		out = append(out, randomFrame(r))
	}
	return out
}

// randomSet returns some indices of frames that a sender may send, perhaps some more than once.
func randomSet(r *rand.Rand) []int {
	var out []int
	for range r.Intn(4) * r.Intn(3) {
		out = append(out, r.Intn(8))
	}
	return out
}

func randomRounds(r *rand.Rand, n int) []link.Round {
	var out []link.Round
	for range n {
		out = append(out, link.Round{Lost: randomSet(r), Doubled: randomSet(r), Deaf: r.Intn(3) == 0})
	}
	return out
}

func randomStations(r *rand.Rand, n int) []link.Station {
	var out []link.Station
	for i := range n {
		waited := []int{0, r.Intn(5), r.Intn(1001), 1000 - r.Intn(4)}[r.Intn(4)]
		out = append(out, station("s"+string(rune('a'+i)), r.Intn(4), r.Intn(5), waited))
	}
	return out
}

func shuffled[T any](r *rand.Rand, l []T) []T {
	out := slices.Clone(l)
	r.Shuffle(len(out), func(i, j int) { out[i], out[j] = out[j], out[i] })
	return out
}

// frameErrors are frames that are none, and their errors.
var frameErrors = []struct {
	f link.Frame
	e api.Errno
}{
	{frame(-1, 0, 1), api.ErrRange}, {frame(256, 0, 1), api.ErrRange}, {frame(math.MinInt, 0, 1), api.ErrRange}, {frame(math.MaxInt, 0, 1), api.ErrRange},
	{frame(0, 0, 0), api.ErrRange}, {frame(0, 0, 65), api.ErrRange}, {frame(0, -1, 0), api.ErrRange}, {frame(0, 0, math.MinInt), api.ErrRange}, {frame(0, 64, 65), api.ErrRange}, {link.Frame{}, api.ErrRange},
	{frame(0, -1, 1), api.ErrRange}, {frame(0, 1, 1), api.ErrRange}, {frame(0, 64, 64), api.ErrRange}, {frame(0, 2, 2), api.ErrRange}, {frame(0, math.MinInt, 2), api.ErrRange}, {frame(0, math.MaxInt, 2), api.ErrRange},
	{frame(0, 0, 1, make([]byte, 13)...), api.ErrMany}, {frame(255, 63, 64, make([]byte, 1000)...), api.ErrMany},
	{frame(256, 0, 1, make([]byte, 13)...), api.ErrRange}, {frame(0, 0, 65, make([]byte, 13)...), api.ErrRange}, {frame(0, 1, 1, make([]byte, 13)...), api.ErrRange},
}

// framesErrors are lists of frames that are none, and their errors.
func framesErrors() []struct {
	l []link.Frame
	e api.Errno
} {
	long, wrong := frame(0, 0, 1, make([]byte, 13)...), frame(0, 1, 1)
	return []struct {
		l []link.Frame
		e api.Errno
	}{
		{repeated(frame(0, 0, 1), 65), api.ErrMany}, {repeated(wrong, 65), api.ErrMany},
		{frames(wrong), api.ErrRange}, {frames(long), api.ErrMany}, {frames(frame(0, 0, 1), wrong), api.ErrRange},
		{frames(frame(0, 0, 1), wrong, long), api.ErrRange}, {frames(frame(0, 0, 1), long, wrong), api.ErrMany},
		{append(repeated(frame(0, 0, 1), 63), wrong), api.ErrRange},
	}
}

// stationErrors are lists of stations that are none, and their errors.
var stationErrors = []struct {
	l []link.Station
	e api.Errno
}{
	{make([]link.Station, 9), api.ErrMany}, {repeated(station("a", 0, 0, 0), 9), api.ErrMany}, {make([]link.Station, 8), api.ErrName},
	{stations(station("", 0, 0, 0)), api.ErrName}, {stations(station("1a", 0, 0, 0)), api.ErrName}, {stations(station("a b", 0, 0, 0)), api.ErrName}, {stations(station("abcdefghijklmnopqrstuvwxy", 0, 0, 0)), api.ErrName},
	{stations(station("a", 0, 0, 0), station("", 4, 65, 1001)), api.ErrName}, {stations(station("", 0, 0, 0), station("", 0, 0, 0)), api.ErrName},
	{stations(station("a", 0, 0, 0), station("a", 0, 0, 0)), api.ErrTwice}, {stations(station("a", 0, 0, 0), station("b", 0, 0, 0), station("a", 4, 65, 1001)), api.ErrTwice},
	{stations(station("a", -1, 0, 0)), api.ErrRange}, {stations(station("a", 4, 0, 0)), api.ErrRange}, {stations(station("a", math.MinInt, 0, 0)), api.ErrRange}, {stations(station("a", math.MaxInt, 0, 0)), api.ErrRange},
	{stations(station("a", 0, -1, 0)), api.ErrRange}, {stations(station("a", 0, 65, 0)), api.ErrRange}, {stations(station("a", 0, 0, -1)), api.ErrRange}, {stations(station("a", 0, 0, 1001)), api.ErrRange},
	{stations(station("a", 4, 0, 0), station("", 0, 0, 0)), api.ErrRange}, {stations(station("a", 0, 65, 0), station("a", 0, 0, 0)), api.ErrRange}, {stations(station("a", 0, 0, 1001), station("a", 0, 0, 0)), api.ErrRange},
	{stations(station("a", 0, 0, 0), station("a", 0, 0, 0), station("", 0, 0, 0)), api.ErrTwice}, {stations(station("a", 0, 0, 0), station("b", 0, 0, 1001)), api.ErrRange},
}

// cycleErrors are cycles that are none, and their errors.
var cycleErrors = []struct {
	cycle []bool
	e     api.Errno
}{{nil, api.ErrEmpty}, {[]bool{}, api.ErrEmpty}, {make([]bool, 17), api.ErrMany}, {repeated(true, 17), api.ErrMany}}
