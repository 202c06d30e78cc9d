package credit_test

import (
	"math/rand"
	"strings"
	"testing"

	"kilovar/api"
	"kilovar/credit"
)

// P8.4

func TestCheckSwitch(t *testing.T) {
	for _, s := range []credit.Switch{off(), ready(), on(), ordered(), full(0), full(100000000), on(order("a", 0), order("A", 0), order("abcdefghijklmnopqrstuvwx", 100000000)), on(order("G_1", 7), order("b", 7))} {
		same(t, "CheckSwitch", all(s, credit.CheckSwitch(s)), all(s, api.OK))
	}
	for e, l := range wrongSwitches() {
		for _, s := range l {
			same(t, "CheckSwitch", all(s, credit.CheckSwitch(s)), all(s, e))
		}
	}
}

// TestWrongSwitches gives switches with errors, and further arguments with errors, to all functions that take a switch.
func TestWrongSwitches(t *testing.T) {
	for e, l := range wrongSwitches() {
		for _, s := range l {
			check := func(what string, results ...any) {
				t.Helper()
				same(t, what, all(s, results), all(s, append(zeros(results[:len(results)-1]...), e)))
			}
			x, f := credit.Ordered(s, "", -1)
			check("Ordered", x, f)
			x, f = credit.Withdrawn(s, "")
			check("Withdrawn", x, f)
			words, f := credit.Barriers(s, make([]credit.Hours, 17), -1, -1)
			check("Barriers", words, f)
			x, f = credit.Opened(s, make([]credit.Hours, 17), -1, -1)
			check("Opened", x, f)
			x, f = credit.Released(s)
			check("Released", x, f)
			x, f = credit.Confirmed(s)
			check("Confirmed", x, f)
		}
	}
}

// wrongTicks and wrongNames are out of their ranges.
func wrongTicks() []int { return append(far(), -1, 100000001) }

func wrongNames() []string {
	return []string{"", " ", "1a", "_a", "a-b", "a b", "a\n", "\xff", "\u00e4", strings.Repeat("a", 25)}
}

func TestOrdered(t *testing.T) {
	for _, x := range []struct {
		s      credit.Switch
		office string
		tick   int
		want   credit.Switch
	}{
		{ordered(), "grid", 32000, on(order("sales", 31000), order("grid", 32000))}, // as in the examples
		{ordered(), "sales", 31000, ordered()}, {ordered(), "sales", 31001, on(order("grid", 30000), order("sales", 31001))}, {ordered(), "law", 31000, on(order("grid", 30000), order("sales", 31000), order("law", 31000))}, {ordered(), "Grid", 31000, on(order("grid", 30000), order("sales", 31000), order("Grid", 31000))},
		{on(), "law", 0, on(order("law", 0))}, {on(), strings.Repeat("a", 24), 100000000, on(order(strings.Repeat("a", 24), 100000000))}, {on(order("law", 5)), "law", 5, on(order("law", 5))},
		{full(5), "a", 6, on(append(full(5).Orders[1:], order("a", 6))...)}, {full(5), "h", 5, full(5)}, {on(full(5).Orders[:7]...), "i", 5, on(append(full(5).Orders[:7:7], order("i", 5))...)},
	} {
		s, e := credit.Ordered(x.s, x.office, x.tick)
		same(t, "Ordered", all(s, e), all(x.want, api.OK))
	}
}

func TestOrderedOfWrongArguments(t *testing.T) {
	for _, x := range []struct {
		s      credit.Switch
		office string
		tick   int
		e      api.Errno
	}{
		{off(), "", -1, api.ErrName}, {full(5), "", 4, api.ErrName}, {off(), "law", -1, api.ErrRange}, {full(5), "i", -1, api.ErrRange}, {full(5), "i", 100000001, api.ErrRange},
		{off(), "law", 5, api.ErrState}, {ready(), "law", 5, api.ErrState},
		{ordered(), "law", 30999, api.ErrOrder}, {ordered(), "sales", 30999, api.ErrOrder}, {ordered(), "grid", 30999, api.ErrOrder}, {ordered(), "grid", 0, api.ErrOrder}, {on(order("law", 5)), "law", 4, api.ErrOrder}, {full(5), "i", 4, api.ErrOrder},
		{full(5), "i", 5, api.ErrMany}, {full(5), "A", 100000000, api.ErrMany},
	} {
		s, e := credit.Ordered(x.s, x.office, x.tick)
		same(t, "Ordered", all(x.office, x.tick, s, e), all(x.office, x.tick, off(), x.e))
	}
	for _, tick := range wrongTicks() {
		s, e := credit.Ordered(ordered(), "law", tick)
		same(t, "Ordered at a wrong tick", all(tick, s, e), all(tick, off(), api.ErrRange))
	}
	for _, office := range wrongNames() {
		s, e := credit.Ordered(ordered(), office, 40000)
		same(t, "Ordered by no name", all(office, s, e), all(office, off(), api.ErrName))
		s, e = credit.Withdrawn(ordered(), office)
		same(t, "Withdrawn by no name", all(office, s, e), all(office, off(), api.ErrName))
	}
}

func TestWithdrawn(t *testing.T) {
	for _, x := range []struct {
		s      credit.Switch
		office string
		want   credit.Switch
		e      api.Errno
	}{
		{ordered(), "grid", on(order("sales", 31000)), api.OK}, {ordered(), "sales", on(order("grid", 30000)), api.OK}, {on(order("law", 5)), "law", on(), api.OK}, {full(5), "h", on(full(5).Orders[:7]...), api.OK}, {full(5), "d", on(append(full(5).Orders[:3:3], full(5).Orders[4:]...)...), api.OK},
		{ordered(), "law", off(), api.ErrUnknown}, {ordered(), "Grid", off(), api.ErrUnknown}, {on(), "grid", off(), api.ErrUnknown}, {off(), "grid", off(), api.ErrUnknown}, {ready(), "grid", off(), api.ErrUnknown},
	} {
		s, e := credit.Withdrawn(x.s, x.office)
		same(t, "Withdrawn", all(x.office, s, e), all(x.office, x.want, x.e))
	}
}

func TestBarriersAndOpened(t *testing.T) {
	three := on(order("grid", 30000), order("sales", 31000), order("law", 32000))
	for _, x := range []struct {
		s           credit.Switch
		tick, fresh int
		words       string
		e           api.Errno
	}{
		{ordered(), 40000, 10000, "", api.OK}, {ordered(), 40000, 9999, "offices", api.ErrRight}, {ordered(), 70000, 50000, "protected", api.ErrHeld}, // as in the examples
		{ordered(), 70000, 5, "protected offices", api.ErrHeld}, {ordered(), 40000, 0, "offices", api.ErrRight}, {ordered(), 40000, 9000, "offices", api.ErrRight}, {ordered(), 31000, 1000, "", api.OK}, {ordered(), 31000, 999, "offices", api.ErrRight}, {ordered(), 1030000, 1000000, "protected", api.ErrHeld}, {ordered(), 1067000, 1000000, "protected offices", api.ErrHeld},
		{three, 42000, 11000, "", api.OK}, {three, 42000, 12000, "", api.OK}, {three, 42000, 10999, "offices", api.ErrRight}, {full(40000), 40000, 0, "", api.OK}, {full(40000), 40001, 0, "offices", api.ErrRight}, {full(40000), 40001, 1, "", api.OK},
		{on(), 40000, 1000000, "offices", api.ErrRight}, {on(), 0, 0, "protected offices", api.ErrHeld}, {on(order("grid", 40000)), 40000, 1000000, "offices", api.ErrRight}, {on(order("grid", 64800), order("law", 64800)), 64800, 0, "protected", api.ErrHeld}, {on(order("grid", 64799), order("law", 64799)), 64799, 0, "", api.OK},
		{off(), 40000, 0, "off offices", api.ErrState}, {ready(), 40000, 1000000, "off offices", api.ErrState}, {off(), 70000, 7, "off protected offices", api.ErrState}, {ready(), 100000000, 0, "off offices", api.ErrState},
	} {
		words, e := credit.Barriers(x.s, hours(), x.tick, x.fresh)
		same(t, "Barriers", all(x.s, x.tick, x.fresh, strings.Join(words, " "), e), all(x.s, x.tick, x.fresh, x.words, api.OK))
		s, e := credit.Opened(x.s, hours(), x.tick, x.fresh)
		same(t, "Opened", all(x.s, x.tick, x.fresh, s, e), all(x.s, x.tick, x.fresh, off(), x.e))
	}
	words, e := credit.Barriers(ordered(), nil, 70000, 50000)
	same(t, "Barriers without hours", all(words, e), all(ints(), api.OK))
}

func TestBarriersOfWrongArguments(t *testing.T) {
	check := func(s credit.Switch, tick, fresh int, want api.Errno) {
		t.Helper()
		words, e := credit.Barriers(s, hours(), tick, fresh)
		same(t, "Barriers", all(tick, fresh, words, e), all(tick, fresh, ints(), want))
		opened, e := credit.Opened(s, hours(), tick, fresh)
		same(t, "Opened", all(tick, fresh, opened, e), all(tick, fresh, off(), want))
	}
	for _, tick := range wrongTicks() {
		check(ordered(), tick, 5, api.ErrRange)
		check(off(), tick, 5, api.ErrRange)
	}
	for _, fresh := range append(far(), -1, 1000001) {
		check(ordered(), 40000, fresh, api.ErrRange)
		check(ordered(), 5, fresh, api.ErrRange)
		check(off(), 40000, fresh, api.ErrRange)
	}
	check(ordered(), 30999, 1000000, api.ErrOrder)
	check(ordered(), 0, 0, api.ErrOrder)
	check(full(5), 4, 5, api.ErrOrder)
}

// TestBarriersByDefinition follows the words of the chapter.
func TestBarriersByDefinition(t *testing.T) {
	r := rand.New(rand.NewSource(7))
	refusals := map[string]api.Errno{"off": api.ErrState, "protected": api.ErrHeld, "offices": api.ErrRight}
	for range 3000 {
		tick, fresh, l := r.Intn(700000), pick(r, r.Intn(5), r.Intn(300000), 1000000), randomHours(r)
		s := randomSwitch(r, tick)
		count := 0
		for _, o := range s.Orders {
			if tick-o.Tick <= fresh {
				count++
			}
		}
		var want []string
		if !s.On {
			want = append(want, "off")
		}
		if protects(l, tick) {
			want = append(want, "protected")
		}
		if count < 2 || !s.On {
			want = append(want, "offices")
		}
		words, e := credit.Barriers(s, l, tick, fresh)
		same(t, "Barriers", all(words, e), all(want, api.OK))
		opened, e := credit.Opened(s, l, tick, fresh)
		if len(want) == 0 {
			same(t, "Opened", all(opened, e), all(off(), api.OK))
			continue
		}
		same(t, "Opened", all(opened, e), all(off(), refusals[want[0]]))
	}
}

func TestReleasedAndConfirmed(t *testing.T) {
	for _, x := range []struct {
		s, released credit.Switch
		e           api.Errno
		confirmed   credit.Switch
		f           api.Errno
	}{
		{off(), ready(), api.OK, off(), api.ErrLocked}, {ready(), off(), api.ErrTwice, on(), api.OK},
		{on(), off(), api.ErrState, off(), api.ErrState}, {ordered(), off(), api.ErrState, off(), api.ErrState}, {full(5), off(), api.ErrState, off(), api.ErrState},
	} {
		s, e := credit.Released(x.s)
		same(t, "Released", all(x.s, s, e), all(x.s, x.released, x.e))
		s, e = credit.Confirmed(x.s)
		same(t, "Confirmed", all(x.s, s, e), all(x.s, x.confirmed, x.f))
	}
}
