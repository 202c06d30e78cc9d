package link_test

import (
	"fmt"
	"math"
	"math/rand"
	"reflect"
	"testing"

	"kilovar/api"
	"kilovar/link"
)

// P1: every function terminates and never panics, for all arguments; they are not modified, and results share no memory with them.

// arguments has one of each kind that functions take.
type arguments struct {
	f        link.Frame
	l        []link.Frame
	b        api.Block
	message  []byte
	s        link.Sender
	r        link.Receiver
	rounds   []link.Round
	stations []link.Station
	cycle    []bool
	x, y     int
	text     string
}

// calls calls all functions, and returns their results.
func calls(a arguments) []any {
	var out []any
	add := func(results ...any) { out = append(out, results...) }
	add(link.CheckFrame(a.f), link.CheckSender(a.s), link.CheckReceiver(a.r), link.CheckStations(a.stations))
	l, e := link.Cut(a.x, a.message, a.y)
	add(l, e)
	message, e := link.Joined(a.l)
	add(message, e)
	b, e := link.Packed(a.f)
	add(b, e)
	f, e := link.Unpacked(a.b)
	add(f, e)
	l, numbers, e := link.Sent(a.s)
	add(l, numbers, e)
	r, n, e := link.Heard(a.r, a.f, a.x)
	add(r, n, e)
	s, e := link.Acknowledged(a.s, a.x)
	add(s, e)
	s, r, e = link.Exchanged(a.s, a.r, a.rounds)
	add(s, r, e)
	return append(out, moreCalls(a)...)
}

func moreCalls(a arguments) []any {
	var out []any
	add := func(results ...any) { out = append(out, results...) }
	n, e := link.Winner(a.stations)
	add(n, e)
	w, left, e := link.Served(a.stations, a.x)
	add(w, left, e)
	n, e = link.Bound(a.x)
	add(n, e)
	w, e = link.Open(a.cycle, a.x, a.y)
	add(w, e)
	w, e = link.Access(a.stations, a.cycle, a.x)
	add(w, e)
	text, e := link.Print(a.l)
	add(text, e)
	l, n, e := link.Parse(a.text)
	add(l, n, e)
	return out
}

// visitLists visits all lists in a value that are not empty, those in lists and structures, too.
func visitLists(v reflect.Value, visit func(v reflect.Value)) {
	switch {
	case v.Kind() == reflect.Struct:
		for i := range v.NumField() {
			visitLists(v.Field(i), visit)
		}
	case v.Kind() == reflect.Slice && v.Len() > 0:
		for i := range v.Len() {
			visitLists(v.Index(i), visit)
		}
		visit(v)
	}
}

// spoil changes all elements of all lists among values.
func spoil(values ...any) {
	for _, x := range values {
		visitLists(reflect.ValueOf(x), func(v reflect.Value) {
			for i := range v.Len() {
				v.Index(i).SetZero()
			}
		})
	}
}

func anyInt(r *rand.Rand) int {
	return []int{r.Intn(3), r.Intn(20) - 1, r.Intn(2000) - 10, math.MinInt, math.MaxInt, int(r.Uint64())}[r.Intn(6)]
}

// anyCount returns a number that often is that of a frame, a size, or a few slots.
func anyCount(r *rand.Rand) int {
	if r.Intn(5) > 0 {
		return 1 + r.Intn(12)
	}
	return anyInt(r)
}

// spoiltBy returns a number, or now and then any one.
func spoiltBy(r *rand.Rand, x int) int {
	if r.Intn(200) > 0 {
		return x
	}
	return anyInt(r)
}

func anyFrame(r *rand.Rand) link.Frame {
	f := randomFrame(r)
	f.Message, f.Part, f.Parts = spoiltBy(r, f.Message), spoiltBy(r, f.Part), spoiltBy(r, f.Parts)
	if r.Intn(300) == 0 {
		f.Bytes = randomBytes(r, r.Intn(30))
	}
	return f
}

func anyFrames(r *rand.Rand, n int) []link.Frame {
	var out []link.Frame
	for range n {
		out = append(out, anyFrame(r))
	}
	return out
}

// anyParts returns frames that often are all those of a message.
func anyParts(r *rand.Rand) []link.Frame {
	l := value(link.Cut(r.Intn(256), randomBytes(r, r.Intn(64)), 1+r.Intn(12)))
	if r.Intn(3) == 0 {
		l = append(l, l[r.Intn(len(l))])
	}
	if r.Intn(3) == 0 {
		l[r.Intn(len(l))].Bytes = randomBytes(r, r.Intn(13))
	}
	if r.Intn(4) == 0 {
		return shuffled(r, anyFrames(r, r.Intn(70)))
	}
	return shuffled(r, l)
}

func anyStations(r *rand.Rand) []link.Station {
	l := randomStations(r, r.Intn(9))
	for i := range l {
		l[i].Priority, l[i].Frames, l[i].Waited = spoiltBy(r, l[i].Priority), spoiltBy(r, l[i].Frames), spoiltBy(r, l[i].Waited)
		if r.Intn(30) == 0 {
			l[i].Name = []string{"", "a b", "sa", "1", "\xff"}[r.Intn(5)]
		}
	}
	return l
}

func anyRounds(r *rand.Rand) []link.Round {
	l := randomRounds(r, r.Intn(20))
	for i := range l {
		if r.Intn(40) == 0 {
			l[i].Lost = append(l[i].Lost, anyInt(r))
		}
		if r.Intn(40) == 0 {
			l[i].Doubled = append(l[i].Doubled, anyInt(r))
		}
	}
	return l
}

func anyText(r *rand.Rand) string {
	text := ""
	if printed, e := link.Print(anyFrames(r, 1+r.Intn(5))); e == api.OK {
		text = printed
	}
	if text != "" && r.Intn(3) > 0 {
		at := r.Intn(len(text))
		text = text[:at] + []string{"", " ", "\n", "-", "0", "\xff"}[r.Intn(6)] + text[at+r.Intn(2):]
	}
	for range r.Intn(3) * r.Intn(2) {
		text += []string{"frame", " ", "\n", "1", "0", " 2", "\xff", "frame 9 1 2 7\n"}[r.Intn(8)]
	}
	return text
}

func anyArguments(seed int64) arguments {
	r := rand.New(rand.NewSource(seed))
	a := arguments{f: anyFrame(r), l: anyParts(r), message: randomBytes(r, r.Intn(70)), stations: anyStations(r), rounds: anyRounds(r), x: anyCount(r), y: anyCount(r), text: anyText(r)}
	a.b = value(link.Packed(randomFrame(r)))
	if r.Intn(2) == 0 {
		a.b[r.Intn(16)] = byte(r.Intn(256))
	}
	n := r.Intn(65)
	acked, window := r.Intn(n+1), 1+r.Intn(8)
	queued := anyFrames(r, n)
	a.s = link.Sender{Queue: queued, Acked: spoiltBy(r, acked), Window: spoiltBy(r, window)}
	taken := acked + r.Intn(min(window, n-acked)+1)
	a.r = link.Receiver{Taken: spoiltBy(r, taken), Frames: queued[:taken]} // shares memory with the sender
	if r.Intn(2) == 0 {
		a.x = taken % 16
	}
	for range 1 + r.Intn(17) {
		a.cycle = append(a.cycle, r.Intn(3) == 0)
	}
	return a
}

// TestAllArguments calls all functions with equal arguments, spoils results, then arguments, and compares what is left.
func TestAllArguments(t *testing.T) {
	for seed := range int64(1500) {
		a := anyArguments(seed)
		first := calls(a)
		printed := fmt.Sprint(first)
		spoil(first...)
		if fmt.Sprint(a) != fmt.Sprint(anyArguments(seed)) {
			t.Fatalf("the arguments of the seed %d are modified", seed)
		}
		second := calls(a)
		spoil(a.f, a.l, a.message, a.s, a.r, a.rounds, a.stations, a.cycle)
		if fmt.Sprint(second) != printed {
			t.Fatalf("the results of the seed %d share memory with arguments, or depend on more than them", seed)
		}
	}
}

func TestResultsShareNoMemory(t *testing.T) {
	for seed := range int64(1000) {
		seen := map[uintptr]bool{}
		for _, x := range calls(anyArguments(seed)) {
			visitLists(reflect.ValueOf(x), func(v reflect.Value) {
				if seen[v.Pointer()] {
					t.Fatal("two lists of results share memory")
				}
				seen[v.Pointer()] = true
			})
		}
	}
}

// TestArgumentsThatShareMemory has frames of a queue whose bytes are the same memory: those of the results are not.
func TestArgumentsThatShareMemory(t *testing.T) {
	bytes := []byte{1, 2, 3}
	l := repeated(frame(1, 0, 1, bytes...), 3)
	s, r, e := link.Exchanged(link.Sender{Queue: l, Window: 8}, link.Receiver{}, rounds(link.Round{Doubled: ints(0, 1, 2), Deaf: true}, link.Round{}))
	same(t, "Exchanged: error", e, api.OK)
	sent, _, e := link.Sent(link.Sender{Queue: l, Window: 8})
	same(t, "Sent: error", e, api.OK)
	for i, list := range [][]link.Frame{s.Queue, r.Frames, sent} {
		for k := range list {
			list[k].Bytes[0] += byte(10*i + k)
		}
	}
	for i, list := range [][]link.Frame{s.Queue, r.Frames, sent} {
		for k := range list {
			same(t, "the first byte", list[k].Bytes[0], 1+10*i+k)
		}
	}
	same(t, "the argument", bytes, []byte{1, 2, 3})
}

// TestFramesShareNoMemory appends to the bytes of each frame of a message: no other frame changes.
func TestFramesShareNoMemory(t *testing.T) {
	message := []byte{1, 2, 3, 4, 5, 6}
	l := value(link.Cut(0, message, 2))
	before := fmt.Sprint(l)
	for _, f := range l {
		_ = append(f.Bytes, 9)
	}
	same(t, "frames", fmt.Sprint(l), before)
	same(t, "the message", message, []byte{1, 2, 3, 4, 5, 6})
}

func TestNothing(t *testing.T) {
	for _, x := range calls(arguments{}) {
		if e, ok := x.(api.Errno); ok && (e < api.OK || e > api.ErrOld) {
			t.Errorf("error %d", e)
		}
	}
}

// TestManyAndFar calls functions with lists far above their limits.
func TestManyAndFar(t *testing.T) {
	for _, n := range ints(math.MinInt, math.MaxInt) {
		wrong := frame(n, n, n, make([]byte, 100000)...)
		far := arguments{f: wrong, l: repeated(wrong, 1000), message: make([]byte, 100000), s: link.Sender{Queue: make([]link.Frame, 100000), Acked: n, Window: n}, r: link.Receiver{Taken: n, Frames: make([]link.Frame, 100000)}, rounds: make([]link.Round, 100000), stations: make([]link.Station, 100000), cycle: make([]bool, 100000), x: n, y: n, text: string(make([]byte, 100000))}
		for _, x := range calls(far) {
			if e, ok := x.(api.Errno); ok && e == api.OK {
				t.Errorf("no error of the number %d", n)
			}
		}
	}
}

// TestLimits compares the limits with the chapter's.
func TestLimits(t *testing.T) {
	same(t, "the limits", ints(link.MaxParts, link.MaxBytes, link.MaxMessage, link.Numbers, link.MaxQueue, link.MaxWindow, link.MaxRounds, link.MaxPriority, link.MaxWait, link.MaxStations, link.MaxCycle, link.MaxSlots), ints(64, 12, 256, 16, 64, 8, 64, 3, 1000, 8, 16, 256))
}
