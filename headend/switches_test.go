package headend_test

import (
	"math/rand"
	"strconv"
	"testing"

	"kilovar/api"
	"kilovar/headend"
)

// P10.1 and P10.2: switches, Barrier

// armed returns events after which a has armed m at 290, and ordered those after which b has ordered it at 295.
func armed(more ...string) []api.Event { return grown(shown("arm a m 290"), more...) }

func ordered(more ...string) []api.Event { return armed(append([]string{"order b m 295"}, more...)...) }

func TestArms(t *testing.T) {
	accepted(t, armed(), try{"arm a m 290", api.ErrTwice}, try{"arm b m 340", api.ErrTwice}, try{"arm b m 341", api.OK}, try{"arm a m 341", api.OK})
	accepted(t, ordered(), try{"arm a m 345", api.ErrTwice}, try{"arm b m 345", api.ErrTwice}, try{"arm b m 346", api.OK}, try{"arm a m 346", api.OK})
	same(t, "armed", registerOf(t, armed()).Meters[0], headend.Meter{Name: "m", Hops: 3, Armed: "a", Since: 290})
	same(t, "armed again", registerOf(t, ordered("arm b m 346")).Meters[0], headend.Meter{Name: "m", Hops: 3, Armed: "b", Since: 346})
	cut := ordered("cut m 300")
	accepted(t, cut, try{"arm a m 300", api.ErrState}, try{"order a m 300", api.ErrState})
	accepted(t, grown(cut, "restore m 300"), try{"arm a m 300", api.OK}, try{"order b m 300", api.ErrState})
	accepted(t, shown("arm a m 0")[:7], try{"arm a m 21", api.OK})
}

// TestArmedAtTheFirstTick arms at the tick 0, which is no sign of a meter that is not armed.
func TestArmedAtTheFirstTick(t *testing.T) {
	l := journal("office a 0", "office b 0", "meter m 0", "arm a m 0")
	accepted(t, l, try{"arm b m 50", api.ErrTwice}, try{"arm b m 51", api.OK}, try{"order b m 50", api.OK}, try{"order b m 51", api.ErrOld}, try{"order a m 0", api.ErrRight})
	accepted(t, l[:3], try{"arm a m 0", api.OK}, try{"order a m 0", api.ErrState}, try{"arm a m 999999999", api.OK})
}

func TestOrders(t *testing.T) {
	accepted(t, shown(), try{"order b m 26", api.ErrState})
	accepted(t, armed(), try{"order a m 291", api.ErrRight}, try{"order a m 341", api.ErrRight}, try{"order b m 290", api.OK}, try{"order b m 340", api.OK}, try{"order b m 341", api.ErrOld})
	accepted(t, ordered(), try{"order b m 296", api.ErrTwice}, try{"order a m 296", api.ErrTwice}, try{"order a m 400", api.ErrTwice})
	same(t, "ordered", registerOf(t, ordered()).Meters[0], headend.Meter{Name: "m", Hops: 3, Armed: "a", Ordered: "b", Since: 295})
	same(t, "an order undone", registerOf(t, ordered("undo")).Meters[0], headend.Meter{Name: "m", Hops: 3, Armed: "a", Since: 290})
	accepted(t, ordered("undo"), try{"order b m 340", api.OK}, try{"order b m 341", api.ErrOld}, try{"cut m 300", api.ErrState})
}

func TestCuts(t *testing.T) {
	accepted(t, shown(), try{"cut m 300", api.ErrState}, try{"restore m 300", api.ErrState})
	accepted(t, armed(), try{"cut m 300", api.ErrState})
	accepted(t, ordered(), try{"cut m 299", api.ErrHeld}, try{"cut m 300", api.OK}, try{"cut m 345", api.OK}, try{"cut m 346", api.ErrOld}, try{"cut m 1000", api.ErrOld})
	cut := ordered("cut m 300")
	same(t, "cut", registerOf(t, cut).Meters[0], headend.Meter{Name: "m", Hops: 3, Cut: true})
	accepted(t, cut, try{"cut m 300", api.ErrState}, try{"cut m 1000", api.ErrState}, try{"restore m 300", api.OK})
	restored := grown(cut, "restore m 1001")
	same(t, "restored", registerOf(t, restored).Meters[0], headend.Meter{Name: "m", Hops: 3})
	accepted(t, restored, try{"restore m 1001", api.ErrState}, try{"cut m 1300", api.ErrState})
}

func TestCutsWithCredit(t *testing.T) {
	l := shown("token k m 23 500", "use k 24", "arm a m 290", "order b m 295")
	accepted(t, l, try{"cut m 299", api.ErrHeld}, try{"cut m 300", api.ErrRule}, try{"cut m 346", api.ErrOld})
	accepted(t, grown(l, "spend m 296 499"), try{"cut m 300", api.ErrRule})
	accepted(t, grown(l, "spend m 296 500"), try{"cut m 300", api.OK})
	other := grown(l, "meter n 296", "arm a n 297", "order b n 298")
	accepted(t, other, try{"cut n 300", api.OK}, try{"cut m 300", api.ErrRule})
}

func TestQuietTicks(t *testing.T) {
	for tick, quiet := range map[int]bool{260: true, 299: true, 300: false, 999: false, 1000: true, 1299: true, 1300: false, 999999000: true, 999999299: true, 999999300: false, 999999999: false} {
		since := strconv.Itoa(tick - 10)
		l := journal("office a 0", "office b 0", "meter m 0", "arm a m "+since, "order b m "+since)
		want := api.OK
		if quiet {
			want = api.ErrHeld
		}
		accepted(t, l, try{"cut m " + strconv.Itoa(tick), want})
	}
}

func TestBarrier(t *testing.T) {
	credited := shown("token k m 23 500", "use k 24")
	for i, x := range []struct {
		l     []api.Event
		tick  int
		words []string
	}{
		{ordered(), 295, []string{"quiet"}}, {ordered(), 299, []string{"quiet"}}, {ordered(), 300, nil}, {ordered(), 345, nil}, {ordered(), 346, []string{"old"}}, {ordered(), 1000, []string{"old", "quiet"}}, {ordered(), 1300, []string{"old"}}, {ordered(), 999999999, []string{"old"}},
		{armed(), 300, []string{"order"}}, {armed(), 341, []string{"order"}}, {armed(), 290, []string{"order", "quiet"}}, {shown(), 21, []string{"order", "quiet"}}, {shown(), 300, []string{"order"}},
		{credited, 24, []string{"order", "quiet", "credit"}}, {credited, 300, []string{"order", "credit"}},
		{grown(credited, "arm a m 290", "order b m 295"), 300, []string{"credit"}}, {grown(credited, "arm a m 290", "order b m 295"), 1000, []string{"old", "quiet", "credit"}},
		{ordered("cut m 300"), 300, []string{"cut", "order"}}, {ordered("cut m 300"), 1000, []string{"cut", "order", "quiet"}}, {ordered("cut m 300", "token k m 301 5", "use k 302"), 1000, []string{"cut", "order", "quiet", "credit"}}, {ordered("cut m 300", "restore m 301"), 301, []string{"order"}},
		{ordered("undo"), 300, []string{"order"}}, {ordered("undo", "undo", "undo"), 3, []string{"order", "quiet"}},
	} {
		same(t, "Barrier "+strconv.Itoa(i), all(headend.Barrier(x.l, "m", x.tick)), all(append([]string{}, x.words...), api.OK))
	}
}

func TestErrorsOfBarrier(t *testing.T) {
	for _, tick := range ints(0, 294) {
		same(t, "Barrier before the register", all(headend.Barrier(ordered(), "m", tick)), all([]string{}, api.ErrState))
	}
	for _, tick := range outside(0, 999999999) {
		same(t, "Barrier at no tick", all(headend.Barrier(ordered(), "m", tick)), all([]string{}, api.ErrRange))
		for _, name := range append(wrongNames(), "a", "r", "M") {
			same(t, "Barrier of no meter", all(headend.Barrier(ordered(), name, tick)), all([]string{}, api.ErrUnknown))
		}
	}
	same(t, "Barrier of no meter, before the register", all(headend.Barrier(ordered(), "n", 0)), all([]string{}, api.ErrUnknown))
	for _, x := range wrongJournals() {
		same(t, "Barrier of a wrong journal", all(headend.Barrier(x.l, "", -1)), all([]string{}, x.e))
	}
}

// TestBarriersAreThoseOfCuts compares Barrier with the model, and with what Accepts says of a cut.
func TestBarriersAreThoseOfCuts(t *testing.T) {
	r := rand.New(rand.NewSource(3))
	for range 60 {
		l := randomJournal(r, 80)
		x := replay(l)
		for _, m := range x.Meters {
			tick := x.Tick + pick(r, 0, 50, 51, r.Intn(100), r.Intn(1500))
			words, e := headend.Barrier(l, m.Name, tick)
			same(t, "Barrier", all(words, e), all(append([]string{}, heldBy(m, tick)...), api.OK))
			same(t, "nothing holds", headend.Accepts(l, eventOf(len(l)+1, "cut "+m.Name+" "+strconv.Itoa(tick))) == api.OK, len(words) == 0)
		}
	}
}
