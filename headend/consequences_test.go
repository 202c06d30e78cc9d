package headend_test

import (
	"math/rand"
	"slices"
	"strconv"
	"strings"
	"testing"

	"kilovar/api"
	"kilovar/headend"
)

// P10.5 and P11

// eachJournal calls a function with random journals.
func eachJournal(seed int64, call func(r *rand.Rand, l []api.Event)) {
	r := rand.New(rand.NewSource(seed))
	for range 40 {
		call(r, randomJournal(r, 40+r.Intn(120)))
	}
}

// registers returns the registers after each of the events that count.
func registers(t *testing.T, l []api.Event) []headend.Register {
	t.Helper()
	var out []headend.Register
	for n := range counting(l) {
		left := slices.Clone(counting(l)[:n+1])
		for i := range left {
			left[i].Number = i + 1
		}
		out = append(out, registerOf(t, left))
	}
	return out
}

func TestEachReadingIsInOneState(t *testing.T) {
	eachJournal(11, func(r *rand.Rand, l []api.Event) {
		due := 0
		for _, e := range counting(l) {
			if e.Kind == "due" {
				due++
			}
		}
		n, e := headend.Counts(l)
		same(t, "each reading that was due is counted once", all(n[0]+n[1]+n[2]+n[3], e), all(due, api.OK))
		tick := r.Intn(2000)
		open, unnamed := value(headend.Due(l, tick)), value(headend.Unnamed(l, tick))
		same(t, "each open reading is due or unnamed", len(open)+len(unnamed), n[0])
		for _, name := range open {
			same(t, "not both", slices.Contains(unnamed, name), false)
		}
		before := map[string]string{}
		for _, x := range registers(t, l) {
			for _, y := range x.Readings {
				from := before[y.Name]
				switch y.State {
				case "open":
					same(t, "what was open before", from == "" || from == "open", true)
				case "done":
					same(t, "what was done before", from == "open" || from == "done", true)
				case "missing":
					same(t, "what was missing before", from == "open" || from == "missing", true)
				case "late":
					same(t, "what was late before", from == "missing" || from == "late", true)
				default:
					t.Errorf("the state %s", y.State)
				}
				before[y.Name] = y.State
			}
		}
	})
}

func TestEachTickHasThePriceOfOneTariff(t *testing.T) {
	eachJournal(12, func(r *rand.Rand, l []api.Event) {
		x := registerOf(t, l)
		for _, e := range counting(l) {
			if e.Kind == "tariff" {
				same(t, "announced before", e.Values[1]-e.Values[0] >= 100, true)
			}
		}
		for i, y := range x.Tariffs {
			end := 999999999
			if i+1 < len(x.Tariffs) {
				end = x.Tariffs[i+1].From - 1
			}
			for _, tick := range ints(y.From, end, y.From+r.Intn(end-y.From+1)) {
				same(t, "Price", all(headend.Price(l, tick)), all(y.Price, api.OK))
			}
			if i == 0 {
				same(t, "Price before", all(headend.Price(l, y.From-1)), all(0, api.ErrNone))
			}
		}
	})
}

func TestCreditIsWhatWasUsedLessWhatWasSpent(t *testing.T) {
	eachJournal(13, func(r *rand.Rand, l []api.Event) {
		credit, amounts, meters, used := map[string]int{}, map[string]int{}, map[string]string{}, map[string]bool{}
		for _, e := range counting(l) {
			switch e.Kind {
			case "token":
				amounts[e.Names[0]], meters[e.Names[0]] = e.Values[1], e.Names[1]
			case "use":
				same(t, "a token credits once", used[e.Names[0]], false)
				used[e.Names[0]] = true
				credit[meters[e.Names[0]]] += amounts[e.Names[0]]
			case "spend":
				credit[e.Names[0]] -= e.Values[1]
			}
			for _, n := range credit {
				same(t, "no credit is below 0", n >= 0, true)
			}
		}
		for _, m := range registerOf(t, l).Meters {
			same(t, "Credit", all(headend.Credit(l, m.Name)), all(credit[m.Name], api.OK))
		}
	})
}

// TestCutsNeedTwoOffices follows what was armed and ordered before each cut.
func TestCutsNeedTwoOffices(t *testing.T) {
	cuts := 0
	eachJournal(14, func(r *rand.Rand, l []api.Event) {
		var before headend.Register
		arms, orders := map[string]api.Event{}, map[string]api.Event{}
		after := registers(t, l)
		for i, e := range counting(l) {
			meter := e.Names[len(e.Names)-1]
			switch e.Kind {
			case "arm":
				arms[meter] = e
				delete(orders, meter)
			case "order":
				orders[meter] = e
			case "cut":
				cuts++
				arm, order := arms[meter], orders[meter]
				if arm.Kind == "" || order.Kind == "" {
					t.Fatal("a cut without an order of two offices")
				}
				same(t, "two offices", arm.Names[0] != order.Names[0], true)
				same(t, "freshly", order.Values[0]-arm.Values[0] <= 50 && e.Values[0]-order.Values[0] <= 50, true)
				same(t, "outside of the quiet hours", e.Values[0]%1000 >= 300, true)
				same(t, "without credit", creditIn(before, meter), 0)
				delete(arms, meter)
				delete(orders, meter)
			}
			before = after[i]
		}
	})
	if cuts < 10 {
		t.Errorf("only %d cuts", cuts)
	}
}

func TestAnUndoLeavesTheRegisterBefore(t *testing.T) {
	eachJournal(15, func(r *rand.Rand, l []api.Event) {
		x := registerOf(t, l)
		for range 20 {
			e := eventOf(len(l)+1, randomLine(r, x))
			if e.Kind == "undo" || headend.Accepts(l, e) != api.OK {
				continue
			}
			longer := append(slices.Clone(l), e)
			undo := eventOf(len(l)+2, "undo")
			if slices.Contains([]string{"use", "cut", "restore"}, e.Kind) {
				same(t, "no undo", headend.Accepts(longer, undo), api.ErrRule)
				continue
			}
			same(t, "the register", registerOf(t, append(longer, undo)), x)
		}
	})
}

// TestStoriesAreAccepted adds the events of stories to sessions, one after the other.
func TestStoriesAreAccepted(t *testing.T) {
	eachJournal(16, func(r *rand.Rand, l []api.Event) {
		for _, m := range registerOf(t, l).Meters {
			story := value(headend.Story(l, m.Name))
			for i, e := range story {
				same(t, "Accepts", headend.Accepts(story[:i], e), api.OK)
			}
			same(t, "the same meter", registerOf(t, story).Meters, []headend.Meter{m})
			same(t, "its own story", all(headend.Story(story, m.Name)), all(story, api.OK))
		}
	})
}

func TestNoPlanIsGreaterThanTheBestOneOrABound(t *testing.T) {
	r := rand.New(rand.NewSource(17))
	for range 1500 {
		l, slots := randomJobs(r, 7), randomSlots(r, 5, 100)
		plan, most, e := headend.Plan(l, slots)
		same(t, "Plan, CheckPlan", all(e, all(headend.CheckPlan(l, slots, plan))), all(api.OK, all(most, api.OK)))
		for range 30 {
			other, prices := make([]int, len(l)), make([]int, len(slots))
			for i := range other {
				other[i] = r.Intn(len(slots)+1) - 1
			}
			for i := range prices {
				prices[i] = pick(r, 0, r.Intn(5), r.Intn(100), 1000)
			}
			value, e := headend.CheckPlan(l, slots, other)
			same(t, "another plan is not better", e == api.OK && (value > most || value == most && slices.Compare(other, plan) < 0), false)
			bound, e := headend.Bound(l, slots, prices)
			same(t, "Bound", all(bound >= most, e), all(true, api.OK))
		}
	}
}

// TestAChangedByteIsFound changes each byte of a log to others.
func TestAChangedByteIsFound(t *testing.T) {
	r := rand.New(rand.NewSource(18))
	log := logOf(randomJournal(r, 60))
	for at := range len(log) {
		if log[at] == '\n' {
			continue
		}
		for _, b := range append([]byte("#0123456789 amM_\r\x00\xff"), byte(r.Intn(256)), log[at]^1, log[at]^32) {
			if b == '\n' || b == log[at] {
				continue
			}
			_, n, e := headend.Recover(log[:at] + string([]byte{b}) + log[at+1:])
			same(t, "the log before the record", all(e != api.OK, n), all(true, strings.LastIndex(log[:at], "\n")+1))
		}
	}
}

// TestAfterACrash cuts logs off anywhere: a session has every event of the whole records, and goes on.
func TestAfterACrash(t *testing.T) {
	eachJournal(19, func(r *rand.Rand, l []api.Event) {
		s, e := headend.Open(logOf(l))
		same(t, "Open", e, api.OK)
		log := s.Log()
		at := r.Intn(len(log) + 1)
		again, e := headend.Open(log[:at])
		n := strings.Count(log[:at], "\n")
		same(t, "the events", all(again.Events(), e), all(slices.Clone(l[:n]), api.OK))
		for _, x := range l[n:] {
			line := strings.SplitN(bodyOf(x), " ", 2)[1]
			same(t, "what was lost", all(again.Do(line)), all("done "+strconv.Itoa(x.Number), api.OK))
		}
		same(t, "the log", again.Log(), log)
		appended := log[:len(logOf(l[:n]))]
		for _, x := range l[n:] {
			appended = value(headend.Append(appended, x))
		}
		same(t, "Append", appended, log)
	})
}
