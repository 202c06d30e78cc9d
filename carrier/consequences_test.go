package carrier_test

import (
	"math/rand"
	"slices"
	"testing"

	"kilovar/api"
	"kilovar/carrier"
)

// P1.6

func randomPhases(r *rand.Rand, n int) []int {
	var out []int
	for range n {
		out = append(out, r.Intn(4))
	}
	return out
}

// disturbed returns samples of which each is wrong by at most a fifth of the level, often by just as much; it stays a sample.
func disturbed(r *rand.Rand, l []float32, level int) []float32 {
	out := slices.Clone(l)
	fifth := level / 5
	for i, x := range out {
		n := int(16*x) + []int{-fifth, fifth, r.Intn(2*fifth+1) - fifth}[r.Intn(3)]
		out[i] = float32(min(max(n, -16384), 16384)) / 16
	}
	return out
}

func TestPhasesComeBack(t *testing.T) {
	r := rand.New(rand.NewSource(7))
	for i := range 300 {
		level := []int{1, 2, 4, 5, 7, 16, 1000, 16384, 1 + r.Intn(16384)}[i%9]
		phases := randomPhases(r, 1+r.Intn(256))
		l := value(carrier.Modulated(level, phases))
		for _, heard := range [][]float32{l, disturbed(r, l, level)} {
			got, doubtful, e := carrier.Demodulated(heard)
			sameResult(t, "phases that come back", got, e, phases, api.OK)
			sameList(t, "none is doubtful", doubtful, nil)
		}
	}
}

func TestOnlyOneElementIsUsed(t *testing.T) {
	r := rand.New(rand.NewSource(8))
	for range 50 {
		level := 1 + r.Intn(16384)
		l := value(carrier.Modulated(level, randomPhases(r, 20)))
		for _, p := range value(carrier.Powers(l)) {
			same(t, "powers of a symbol", p, [3]int{0, 4 * level * level, 0})
		}
		bad, e := carrier.Violations(l, [3]bool{true, false, true}, 0)
		sameResult(t, "violations of a symbol", bad, e, nil, api.OK)
	}
}

func TestBitsComeBack(t *testing.T) {
	r := rand.New(rand.NewSource(9))
	for n := range 257 {
		s := randomBytes(r, n)
		bits := value(carrier.Bits(s))
		got, e := carrier.Bytes(bits)
		sameResult(t, "bytes that come back", got, e, s, api.OK)
		if n > 64 {
			continue
		}
		phases, e := carrier.Phases(bits)
		same(t, "phases of bits", e, api.OK)
		back, e := carrier.Unphased(phases)
		sameResult(t, "bits that come back", back, e, bits, api.OK)
	}
}

func TestPilotIsFound(t *testing.T) {
	r := rand.New(rand.NewSource(10))
	for range 200 {
		pilot := randomSamples(r, 1+r.Intn(64))
		l := make([]float32, len(pilot)+1+r.Intn(200))
		at := r.Intn(len(l) - len(pilot) + 1)
		copy(l[at:], pilot)
		got, two, e := carrier.Found(l, pilot)
		same(t, "a pilot in silence", got, at)
		same(t, "a pilot in silence: error", e, api.OK)
		if two[0] <= two[1] {
			t.Errorf("a pilot in silence: correlations %v", two)
		}
	}
}

func TestSealsDiffer(t *testing.T) {
	r := rand.New(rand.NewSource(11))
	for range 200 {
		key, s := randomKey(r), randomBytes(r, 1+r.Intn(100))
		seal := value(carrier.Seal(key, s))
		changed := slices.Clone(s)
		changed[r.Intn(len(s))] += byte(1 + r.Intn(255))
		other := value(carrier.Seal(key, changed))
		for j := range seal {
			if seal[j] == other[j] {
				t.Errorf("a changed byte leaves the byte %d of the seal", j)
			}
		}
		otherKey := key
		otherKey[r.Intn(8)] += byte(1 + r.Intn(255))
		if value(carrier.Seal(otherKey, s)) == seal {
			t.Error("two keys have one seal")
		}
	}
}

func TestChangedChain(t *testing.T) {
	r := rand.New(rand.NewSource(12))
	for range 100 {
		key := randomKey(r)
		var blocks []api.Block
		for range 1 + r.Intn(20) {
			blocks = append(blocks, api.Block(randomBytes(r, 16)))
		}
		seals := value(carrier.Chain(key, blocks))
		at, e := carrier.CheckChain(key, blocks, seals)
		same(t, "a chain", at, 0)
		same(t, "a chain: error", e, api.OK)
		i := r.Intn(len(blocks))
		blocks[i][r.Intn(16)] += byte(1 + r.Intn(255))
		at, e = carrier.CheckChain(key, blocks, seals)
		same(t, "a chain with a changed block", at, i)
		same(t, "a chain with a changed block: error", e, api.ErrCheck)
		for k, seal := range value(carrier.Chain(key, blocks)) {
			same(t, "seals before the changed block", seal == seals[k], k < i)
		}
		seals = value(carrier.Chain(key, blocks))
		seals[i][r.Intn(8)] += byte(1 + r.Intn(255))
		at, e = carrier.CheckChain(key, blocks, seals)
		same(t, "a chain with a changed seal", at, i)
		same(t, "a chain with a changed seal: error", e, api.ErrCheck)
	}
}

func TestChangedFrame(t *testing.T) {
	r := rand.New(rand.NewSource(13))
	for range 20 {
		key := randomKey(r)
		f := value(carrier.Encode(key, randomTelegram(r)))
		for i := range f {
			g := f
			g[i] += byte(1 + r.Intn(255))
			if _, e := carrier.Decode(key, g); e == api.OK {
				t.Errorf("a frame with a changed byte %d is decoded", i)
			}
		}
	}
}

func TestFramesBetweenDamage(t *testing.T) {
	r := rand.New(rand.NewSource(14))
	for range 100 {
		key := randomKey(r)
		var s []byte
		var want []carrier.Telegram
		for range 20 {
			x := randomTelegram(r)
			f := value(carrier.Encode(key, x))
			if slices.Contains(f[1:], carrier.Mark) {
				continue
			}
			switch r.Intn(4) {
			case 0: // lost in part
				s = append(s, f[:r.Intn(carrier.Size)]...)
			case 1: // changed, to no Mark
				f[1+r.Intn(31)] ^= 128
				if !slices.Contains(f[1:], carrier.Mark) {
					s = append(s, f[:]...)
				}
			default:
				s = append(s, f[:]...)
				want = append(want, x)
			}
		}
		l, skipped, e := carrier.Received(key, s)
		sameResult(t, "frames that are not damaged", l, e, want, api.OK)
		n := carrier.Size * len(l)
		for _, x := range skipped {
			n += x.To - x.From
		}
		same(t, "bytes that are received or skipped", n, len(s))
	}
}

func TestStringsAndStreamsComeBack(t *testing.T) {
	r := rand.New(rand.NewSource(15))
	for _, n := range []int{0, 1, 2, 3, 50, 4096} {
		l := randomSamples(r, n)
		s, e := carrier.Pack(l)
		same(t, "Pack: error", e, api.OK)
		back, e := carrier.Unpack(s)
		sameResult(t, "samples from their stream", back, e, l, api.OK)
		again, e := carrier.Pack(back)
		sameResult(t, "a stream from its samples", again, e, s, api.OK)
		text, e := carrier.Print(l)
		same(t, "Print: error", e, api.OK)
		back, at, e := carrier.Parse(text)
		sameResult(t, "samples from their string", back, e, l, api.OK)
		same(t, "samples from their string: index", at, 0)
		second, e := carrier.Print(back)
		same(t, "a string from its samples", second, text)
		same(t, "a string from its samples: error", e, api.OK)
	}
}
