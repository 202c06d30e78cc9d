package tone_test

import (
	"math/rand"
	"slices"
	"testing"

	"kilovar/api"
	"kilovar/tone"
)

// P2.6

func TestPathBack(t *testing.T) {
	r := rand.New(rand.NewSource(5))
	for range 300 {
		m := randomMains(r)
		from, to, carrier := r.Intn(len(m.Nodes)), r.Intn(len(m.Nodes)), r.Intn(m.Carriers)
		there, back := value(tone.Path(m, from, to)), value(tone.Path(m, to, from))
		slices.Reverse(back)
		same(t, "a path back", back, there)
		g1, e1 := tone.Gain(m, from, to, carrier)
		g2, e2 := tone.Gain(m, to, from, carrier)
		same(t, "the gain of a path back", all(g2, e2), all(g1, e1))
	}
}

// everyState visits mains in which no load may be on or off, for all their states.
func everyState(m tone.Mains, load int, visit func(m tone.Mains)) {
	if load == len(m.Loads) {
		visit(m)
		return
	}
	if m.Loads[load].State != "may" {
		everyState(m, load+1, visit)
		return
	}
	for _, state := range []string{"on", "off"} {
		everyState(value(tone.Switched(m, load, state)), load+1, visit)
	}
}

func TestGainsAreEnclosed(t *testing.T) {
	r := rand.New(rand.NewSource(6))
	for range 200 {
		m := randomMains(r)
		from, to, carrier := r.Intn(len(m.Nodes)), r.Intn(len(m.Nodes)), r.Intn(m.Carriers)
		x, e := tone.Enclosed(m, from, to, carrier)
		if e != api.OK {
			continue
		}
		low, high := false, false
		everyState(m, 0, func(m tone.Mains) {
			g, e := tone.Gain(m, from, to, carrier)
			same(t, "Gain: error", e, api.OK)
			s := g.Re*g.Re + g.Im*g.Im
			if s < x.Low || s > x.High {
				t.Errorf("the square %d is not in %v", s, x)
			}
			low, high = low || s == x.Low, high || s == x.High
		})
		same(t, "both ends are reached", all(low, high), all(true, true))
	}
}

func TestNoMapIsBetter(t *testing.T) {
	r := rand.New(rand.NewSource(7))
	for range 200 {
		x := randomTones(r, 1+r.Intn(4))
		part, budget := r.Intn(len(x.Noise)), r.Intn(150)
		best, power, e := tone.Best(x, part, budget)
		same(t, "Best: error", e, api.OK)
		n, e := tone.CheckMap(x, part, best)
		same(t, "the best map fits", all(n, e, n <= budget), all(power, api.OK, true))
		for _, price := range ints(0, 1, r.Intn(3000), 100000) {
			if bound := value(tone.Bound(x, part, budget, price)); 1000*sumOf(best) > bound {
				t.Errorf("the bound %d is below the best map %v", bound, best)
			}
		}
		for range 50 {
			bits := randomBits(r, len(x.Signal))
			if n, e := tone.CheckMap(x, part, bits); e == api.OK && n <= budget && sumOf(bits) > sumOf(best) {
				t.Errorf("the map %v is better than %v", bits, best)
			}
		}
		for _, k := range x.Notches {
			same(t, "a notched carrier", all(best[k], value(tone.Carries(x, part))[k], value(tone.Robust(x))[k]), all(0, 0, 0))
		}
	}
}

func sumOf(l []int) int {
	sum := 0
	for _, n := range l {
		sum += n
	}
	return sum
}

func TestDataComeBack(t *testing.T) {
	r := rand.New(rand.NewSource(8))
	for range 500 {
		bits := append(randomBits(r, r.Intn(8)), 1+r.Intn(6))
		data := randomData(r, 1+r.Intn(300))
		levels, e := tone.Loaded(bits, data)
		same(t, "Loaded: error", e, api.OK)
		back, e := tone.Unloaded(bits, levels, len(data))
		same(t, "data that come back", all(back, e), all(data, api.OK))
		n := len(levels) * sumOf(bits) // also the bits behind the end
		before := value(tone.Unloaded(bits, levels, n))
		symbol, k := levels[r.Intn(len(levels))], len(bits)-1
		symbol[k] += 1 - 2*r.Intn(2)
		after, e := tone.Unloaded(bits, levels, n)
		if e == api.ErrRange { // there is no such level
			continue
		}
		wrong := 0
		for i := range before {
			if before[i] != after[i] {
				wrong++
			}
		}
		same(t, "bits that are spoilt by a level", wrong, 1)
	}
}

func TestVotesAreRight(t *testing.T) {
	r := rand.New(rand.NewSource(9))
	for range 300 {
		n := 1 + r.Intn(15)
		right := make([]int, 1+r.Intn(30))
		copies := make([][]int, n)
		for i := range copies {
			copies[i] = make([]int, len(right))
		}
		for at := range right {
			right[at] = r.Intn(2)
			for i, k := range r.Perm(n) { // fewer than half of the copies are wrong here
				copies[k][at] = right[at]
				if i < (n-1)/2 {
					copies[k][at] = 1 - right[at]
				}
			}
		}
		v, e := tone.Voted(copies)
		same(t, "a vote", all(v, e), all(right, api.OK))
	}
}

// message is a proposal, an answer or a frame that is under way; bits is the map that was proposed, or with which the frame was sent.
type message struct {
	kind   string
	number int
	bits   []int
}

// network is two ends, and all messages that were ever sent: each may arrive at any time, several times, or never.
type network struct {
	s    tone.Sender
	r    tone.Receiver
	sent []message
}

// deliver lets a message arrive, and reports whether it was a frame that is taken.
func (n *network) deliver(t *testing.T, m message) bool {
	switch m.kind {
	case "proposal":
		r, answer, e := tone.Heard(n.r, m.number, m.bits)
		if e == api.OK {
			n.r = r
			n.sent = append(n.sent, message{kind: "answer", number: answer})
		} else {
			same(t, "an error of Heard", e, api.ErrNone)
		}
	case "answer":
		s, e := tone.Confirmed(n.s, m.number)
		same(t, "an error of Confirmed", e, api.OK)
		n.s = s
	case "frame":
		r, bits, e := tone.Taken(n.r, m.number)
		if e == api.OK {
			same(t, "the map by which a frame is taken", bits, m.bits)
			n.r = r
			return true
		}
		same(t, "an error of Taken", e, api.ErrOld)
	}
	return false
}

func TestFramesAreTakenByTheirMaps(t *testing.T) {
	r := rand.New(rand.NewSource(10))
	for range 30 {
		n := network{s: sender(0, ints(1, 1), nil), r: receiver(0, ints(1, 1), nil)}
		taken := 0
		for range 2000 {
			switch r.Intn(5) {
			case 0:
				if s, e := tone.Proposed(n.s, randomBits(r, 2)); e == api.OK {
					n.s = s
				}
			case 1:
				if len(n.s.Next) > 0 {
					n.sent = append(n.sent, message{kind: "proposal", number: n.s.Number + 1, bits: n.s.Next})
				}
			case 2:
				n.sent = append(n.sent, message{kind: "frame", number: n.s.Number, bits: n.s.Bits})
			default: // mostly one of the last ones
				if k := len(n.sent); k > 0 && n.deliver(t, n.sent[k-1-min(r.Intn(k), r.Intn(k), r.Intn(k), r.Intn(20))%k]) {
					taken++
				}
			}
		}
		if n.r.Number < 10 || taken < 10 {
			t.Errorf("only %d maps came into use, and %d frames were taken", n.r.Number, taken)
		}
	}
}

func TestTextsComeBack(t *testing.T) {
	r := rand.New(rand.NewSource(11))
	for range 300 {
		m := randomMains(r)
		text, e := tone.Print(m)
		same(t, "Print: error", e, api.OK)
		back, i, e := tone.Parse(text)
		same(t, "mains that come back", all(back, i, e), all(m, 0, api.OK))
		again, e := tone.Print(back)
		same(t, "a text that comes back", all(again, e), all(text, api.OK))
	}
}
