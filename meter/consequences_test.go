package meter_test

import (
	"math/rand"
	"slices"
	"testing"

	"kilovar/api"
	"kilovar/meter"
)

// P6.5

func TestParts(t *testing.T) {
	r := rand.New(rand.NewSource(6))
	for range 300 {
		n := 4 * r.Intn(40)
		v, i, before := randomSamples(r, n), randomSamples(r, n), randomMeter(r)
		want, e := meter.Counted(before, v, i)
		same(t, "Counted: error", e, api.OK)
		m := before
		for at := 0; at < n; {
			end := at + 4*(1+r.Intn((n-at)/4))
			m, e = meter.Counted(m, v[at:end], i[at:end])
			same(t, "Counted of a part: error", e, api.OK)
			at = end
		}
		same(t, "a meter of parts", m, want)
	}
}

// TestTheOppositeCurrent exchanges registers. A power without an active part is left out: both quadrants 1 and 4 begin at it.
func TestTheOppositeCurrent(t *testing.T) {
	r := rand.New(rand.NewSource(7))
	for range 500 {
		var v, i []float32
		for range r.Intn(10) {
			a, b := randomSamples(r, 4), randomSamples(r, 4)
			if real(value(meter.Power([4]float32(a), [4]float32(b)))) != 0 {
				v, i = append(v, a...), append(i, b...)
			}
		}
		m, e := meter.Counted(meter.Meter{}, v, i)
		same(t, "Counted: error", e, api.OK)
		other, e := meter.Counted(meter.Meter{}, v, opposite(i))
		same(t, "the opposite current", all(other, e), all(meter.Meter{m[1], m[0], m[4], m[5], m[2], m[3]}, api.OK))
	}
}

func TestDifferencesAreWhatWasCounted(t *testing.T) {
	r := rand.New(rand.NewSource(8))
	for range 300 {
		n := 4 * r.Intn(30)
		v, i, before := randomSamples(r, n), randomSamples(r, n), randomMeter(r)
		after := value(meter.Counted(before, v, i))
		alone := value(meter.Counted(meter.Meter{}, v, i))
		var most int
		for k := range after {
			want := 1000000*alone[k].Units + alone[k].Rest
			got, e := meter.Difference(before[k], after[k])
			same(t, "Difference", all(got, e), all(want, api.OK))
			most = max(most, want)
		}
		if most > 0 && most <= 100000000 {
			l, e := meter.Implausible(before, after, 1, most)
			same(t, "Implausible by the greatest difference", all(l, e), all(ints(), api.OK))
		}
		if most > 1 && most <= 100000001 {
			l, e := meter.Implausible(before, after, 1, most-1)
			same(t, "Implausible by less", all(len(l) > 0, e), all(true, api.OK))
		}
	}
}

func TestTheLastEntriesAreKept(t *testing.T) {
	r := rand.New(rand.NewSource(9))
	for range 60 {
		room := 1 + r.Intn(64)
		l := randomEntries(r, 64)
		p, e := profile(room), api.OK
		for i, x := range l {
			p, e = meter.Stored(p, x)
			kept := l[max(0, i+1-room) : i+1]
			same(t, "Stored", all(p, e), all(profile(room, kept...), api.OK))
			got, e := meter.Read(p, span(kept[0].Number, x.Number+1))
			same(t, "Read of all", all(got, e), all(kept, api.OK))
		}
	}
}

// TestAlteredEntries changes one byte of the block of an entry.
func TestAlteredEntries(t *testing.T) {
	r := rand.New(rand.NewSource(10))
	for range 2000 {
		l := randomEntries(r, 1+r.Intn(10))
		seals := value(meter.Sealed(key, l))
		at := r.Intn(len(l))
		b := value(meter.Blocked(l[at]))
		b[r.Intn(16)] ^= byte(1 + r.Intn(255))
		x, e := meter.Unblocked(b)
		if e != api.OK {
			continue
		}
		altered := slices.Clone(l)
		altered[at] = x
		checkVerified(t, "an entry that is altered", altered, seals, at, api.ErrCheck)
		other := value(meter.Sealed(key, altered))
		for i := range l {
			for k := range 8 {
				if (i < at) != (other[i][k] == seals[i][k]) {
					t.Fatalf("of %v, altered at %d, the byte %d of the seal %d is as it was, or changes before", l, at, k, i)
				}
			}
		}
	}
}

func TestEntriesLeftOutOrDoubled(t *testing.T) {
	r := rand.New(rand.NewSource(11))
	for range 500 {
		l := randomEntries(r, 1+r.Intn(20))
		seals := value(meter.Sealed(key, l))
		checkVerified(t, "all entries", l, seals, len(l), api.OK)
		at := r.Intn(len(l))
		checkVerified(t, "an entry that is doubled", slices.Insert(slices.Clone(l), at, l[at]), slices.Insert(slices.Clone(seals), at, seals[at]), at+1, api.ErrCheck)
		if at < len(l)-1 {
			checkVerified(t, "an entry that is left out", slices.Delete(slices.Clone(l), at, at+1), slices.Delete(slices.Clone(seals), at, at+1), at, api.ErrCheck)
		}
	}
}

// TestSlewedClocks examines that a clock that is slewed never jumps nor goes back, and has its new offset in the end.
func TestSlewedClocks(t *testing.T) {
	r := rand.New(rand.NewSource(12))
	for range 300 {
		c := randomClock(r)
		from := c.Since + r.Intn(3000)
		by, every := r.Intn(41)-20, 2+r.Intn(30)
		slewed, e := meter.Slewed(c, from, by, every)
		same(t, "Slewed: error", e, api.OK)
		before := value(meter.Time(c, from))
		same(t, "the time at which it is slewed", value(meter.Time(slewed, from)), before)
		end := from + 20*every
		for tick := from + 1; tick <= end; tick++ {
			time := value(meter.Time(slewed, tick))
			if time < before || time > before+2 {
				t.Fatalf("%v goes from %d to %d", slewed, before, time)
			}
			before = time
		}
		for _, tick := range ints(end, end+1, end+1000) {
			same(t, "the new offset", value(meter.Time(slewed, tick))-tick, slewed.Offset+by)
		}
	}
}

func TestSetClocks(t *testing.T) {
	r := rand.New(rand.NewSource(13))
	for range 300 {
		c := randomClock(r)
		tick, time := c.Since+r.Intn(5000), r.Intn(900000)
		set, jump, e := meter.Set(c, tick, time)
		same(t, "Set: error", e, api.OK)
		same(t, "the time and the jump", all(value(meter.Time(set, tick)), value(meter.Time(c, tick))+jump), all(time, time))
		same(t, "a time later", value(meter.Time(set, tick+777)), time+777)
	}
}

// TestAsManyIntervalsAsMultiples counts the multiples of a length that the time passes.
func TestAsManyIntervalsAsMultiples(t *testing.T) {
	r := rand.New(rand.NewSource(14))
	for range 500 {
		c, length := randomClock(r), []int{2, 3, 2 + r.Intn(100)}[r.Intn(3)]
		from := c.Since + r.Intn(2500)
		to := from + r.Intn(4096)
		first, last := value(meter.Time(c, from)), value(meter.Time(c, to))
		want := 0
		for time := first + 1; time <= last; time++ {
			if time%length == 0 {
				want++
			}
		}
		l, e := meter.Boundaries(c, span(from+1, to+1), length)
		same(t, "Boundaries", all(len(l), e), all(want, api.OK))
		for _, tick := range l {
			if time := value(meter.Time(c, tick)); time%length != 0 && (time-1)%length != 0 {
				t.Fatalf("an interval of %v begins at %d, when the time is %d", c, tick, time)
			}
		}
	}
}

func TestAllComesBack(t *testing.T) {
	r := rand.New(rand.NewSource(15))
	for range 500 {
		m := randomMeter(r)
		text, e := meter.Print(m)
		same(t, "Print: error", e, api.OK)
		got, i, e := meter.Parse(text)
		same(t, "Parse", all(got, i, e), all(m, 0, api.OK))

		x := randomEntry(r, r.Intn(1000000000), r.Intn(100000001))
		b, e := meter.Blocked(x)
		same(t, "Blocked: error", e, api.OK)
		back, e := meter.Unblocked(b)
		same(t, "Unblocked", all(back, e), all(x, api.OK))

		n, k := r.Intn(65), randomKey(r)
		p := profile(max(1, n+r.Intn(65-n)), randomEntries(r, n)...)
		s, e := meter.Pack(k, p)
		same(t, "Pack: error", e, api.OK)
		unpacked, e := meter.Unpack(k, s)
		same(t, "Unpack", all(unpacked, e), all(p, api.OK))
	}
}

// TestBlocksComeBack has blocks of random bytes: what is an entry has this block.
func TestBlocksComeBack(t *testing.T) {
	r := rand.New(rand.NewSource(16))
	for range 3000 {
		b := value(meter.Blocked(randomEntry(r, r.Intn(1000000000), r.Intn(100000001))))
		b[r.Intn(16)] = byte(r.Intn(256))
		x, e := meter.Unblocked(b)
		if e == api.OK {
			same(t, "the block of the entry of a block", value(meter.Blocked(x)), b)
		}
	}
}
