package headend_test

import (
	"slices"

	"kilovar/api"
	"kilovar/headend"
)

// What the chapter defines, computed in other ways than the package's: one register, which each event that counts changes in place, from the beginning on.

// counting returns those of some accepted events that count.
func counting(l []api.Event) []api.Event {
	var out []api.Event
	for _, e := range l {
		if e.Kind == "undo" {
			out = out[:len(out)-1]
		} else {
			out = append(out, e)
		}
	}
	return out
}

// replay returns the register after accepted events.
func replay(l []api.Event) headend.Register {
	var out headend.Register
	for _, e := range counting(l) {
		change(&out, e)
	}
	return out
}

func nameOf[T any](x T) string {
	switch y := any(x).(type) {
	case headend.Meter:
		return y.Name
	case headend.Reading:
		return y.Name
	case headend.Tariff:
		return y.Name
	case headend.Token:
		return y.Name
	}
	return ""
}

// in returns the element of a list with a name, or nil.
func in[T any](l []T, name string) *T {
	for i := range l {
		if nameOf(l[i]) == name {
			return &l[i]
		}
	}
	return nil
}

// change changes a register by an accepted event.
func change(r *headend.Register, e api.Event) {
	name, last, v := e.Names[0], e.Names[len(e.Names)-1], append(slices.Clone(e.Values), 0, 0)
	reading, meter, token := in(r.Readings, name), in(r.Meters, last), in(r.Tokens, name)
	r.Tick = v[0]
	switch e.Kind {
	case "office":
		r.Offices = append(r.Offices, name)
	case "meter":
		r.Meters = append(r.Meters, headend.Meter{Name: name})
	case "route":
		meter.Hops = v[1]
	case "due":
		r.Readings = append(r.Readings, headend.Reading{Name: name, Meter: last, Deadline: v[1], State: "open"})
	case "try":
		reading.Tries++
	case "done":
		reading.State, reading.Units = map[string]string{"open": "done", "missing": "late"}[reading.State], v[1]
	case "miss":
		reading.State, reading.Units = "missing", v[1]
	case "tariff":
		r.Tariffs = append(r.Tariffs, headend.Tariff{Name: name, From: v[1], Price: v[2]})
	case "token":
		r.Tokens = append(r.Tokens, headend.Token{Name: name, Meter: last, Amount: v[1]})
	case "use":
		token.Used = true
		in(r.Meters, token.Meter).Credit += token.Amount
	case "spend":
		meter.Credit -= v[1]
	case "arm":
		meter.Armed, meter.Ordered, meter.Since = name, "", v[0]
	case "order":
		meter.Ordered, meter.Since = name, v[0]
	case "cut":
		*meter = headend.Meter{Name: meter.Name, Hops: meter.Hops, Credit: meter.Credit, Cut: true}
	case "restore":
		meter.Cut = false
	}
}

// rule is an error, and whether it applies.
type rule struct {
	applies bool
	e       api.Errno
}

// firstOf returns the error of the first rule that applies, or OK.
func firstOf(rules ...rule) api.Errno {
	for _, x := range rules {
		if x.applies {
			return x.e
		}
	}
	return api.OK
}

// refusal returns the error with which an event that has none by itself is not accepted after accepted events, or OK.
func refusal(l []api.Event, e api.Event) api.Errno {
	left := counting(l)
	if e.Number != len(l)+1 {
		return api.ErrOrder
	}
	if e.Kind == "undo" {
		return firstOf(rule{len(left) == 0, api.ErrEmpty}, rule{len(left) > 0 && slices.Contains([]string{"use", "cut", "restore"}, left[len(left)-1].Kind), api.ErrRule})
	}
	r := replay(l)
	if e.Values[0] < r.Tick {
		return api.ErrState
	}
	if refused := refusedNames(r, e); refused != api.OK {
		return refused
	}
	switch e.Kind {
	case "office", "meter", "route", "tariff", "token", "use", "spend":
		return refusedSale(r, e)
	case "due", "try", "done", "miss":
		return refusedReading(r, e)
	}
	return refusedSwitch(r, e)
}

func refusedNames(r headend.Register, e api.Event) api.Errno {
	name, last := e.Names[0], e.Names[len(e.Names)-1]
	office, meter, reading, tariff, token := slices.Contains(r.Offices, name), in(r.Meters, last) != nil, in(r.Readings, name) != nil, in(r.Tariffs, name) != nil, in(r.Tokens, name) != nil
	switch e.Kind {
	case "office":
		return firstOf(rule{office, api.ErrTwice})
	case "meter":
		return firstOf(rule{meter, api.ErrTwice})
	case "tariff":
		return firstOf(rule{tariff, api.ErrTwice})
	case "due":
		return firstOf(rule{!meter, api.ErrUnknown}, rule{reading, api.ErrTwice})
	case "token":
		return firstOf(rule{!meter, api.ErrUnknown}, rule{token, api.ErrTwice})
	case "try", "done", "miss":
		return firstOf(rule{!reading, api.ErrUnknown})
	case "use":
		return firstOf(rule{!token, api.ErrUnknown})
	case "arm", "order":
		return firstOf(rule{!office || !meter, api.ErrUnknown})
	}
	return firstOf(rule{!meter, api.ErrUnknown})
}

func refusedSale(r headend.Register, e api.Event) api.Errno {
	name, v := e.Names[0], append(slices.Clone(e.Values), 0, 0)
	switch e.Kind {
	case "office":
		return firstOf(rule{len(r.Offices) >= 8, api.ErrMany})
	case "meter":
		return firstOf(rule{len(r.Meters) >= 16, api.ErrMany})
	case "route":
		return firstOf(rule{v[1] > 15, api.ErrRange})
	case "tariff":
		latest := -1
		for _, t := range r.Tariffs {
			latest = max(latest, t.From)
		}
		return firstOf(rule{v[2] > 100000, api.ErrRange}, rule{v[1]-v[0] < 100, api.ErrShort}, rule{v[1] <= latest, api.ErrOrder}, rule{len(r.Tariffs) >= 16, api.ErrMany})
	case "token":
		return firstOf(rule{v[1] == 0 || v[1] > 1000000, api.ErrRange}, rule{len(r.Tokens) >= 64, api.ErrMany})
	case "use":
		return firstOf(rule{in(r.Tokens, name).Used, api.ErrTwice})
	}
	return firstOf(rule{v[1] == 0, api.ErrRange}, rule{v[1] > in(r.Meters, name).Credit, api.ErrShort})
}

func refusedReading(r headend.Register, e api.Event) api.Errno {
	v := append(slices.Clone(e.Values), 0)
	if e.Kind == "due" {
		return firstOf(rule{v[1] < v[0], api.ErrOver}, rule{len(r.Readings) >= 64, api.ErrMany})
	}
	x := in(r.Readings, e.Names[0])
	came := x.State == "done" || x.State == "late"
	switch e.Kind {
	case "try":
		return firstOf(rule{came, api.ErrTwice}, rule{in(r.Meters, x.Meter).Hops == 0, api.ErrNone}, rule{x.Tries >= 8, api.ErrMany})
	case "done":
		return firstOf(rule{came, api.ErrTwice}, rule{x.Tries == 0, api.ErrNone}, rule{v[1] > 999999, api.ErrRange})
	}
	return firstOf(rule{came || x.State == "missing", api.ErrTwice}, rule{v[0] <= x.Deadline, api.ErrOpen}, rule{v[1] > 999999, api.ErrRange})
}

func refusedSwitch(r headend.Register, e api.Event) api.Errno {
	m, tick := in(r.Meters, e.Names[len(e.Names)-1]), e.Values[0]
	age := tick - m.Since
	switch e.Kind {
	case "arm":
		return firstOf(rule{m.Cut, api.ErrState}, rule{m.Armed+m.Ordered != "" && age <= 50, api.ErrTwice})
	case "order":
		return firstOf(rule{m.Armed == "", api.ErrState}, rule{m.Cut, api.ErrState}, rule{m.Ordered != "", api.ErrTwice}, rule{m.Armed == e.Names[0], api.ErrRight}, rule{age > 50, api.ErrOld})
	case "restore":
		return firstOf(rule{!m.Cut, api.ErrState})
	}
	errors := map[string]api.Errno{"cut": api.ErrState, "order": api.ErrState, "old": api.ErrOld, "quiet": api.ErrHeld, "credit": api.ErrRule}
	for _, word := range heldBy(*m, tick) {
		return errors[word]
	}
	return api.OK
}

// heldBy returns what holds a meter at a tick.
func heldBy(m headend.Meter, tick int) []string {
	var out []string
	for _, x := range []struct {
		applies bool
		word    string
	}{{m.Cut, "cut"}, {m.Ordered == "", "order"}, {m.Ordered != "" && tick-m.Since > 50, "old"}, {tick-tick/1000*1000 <= 299, "quiet"}, {m.Credit != 0, "credit"}} {
		if x.applies {
			out = append(out, x.word)
		}
	}
	return out
}

// plans returns all lists of a slot for each job, or -1, the first ones first, whether they are plans or not.
func plans(jobs, slots int) [][]int {
	out := [][]int{nil}
	for range jobs {
		var longer [][]int
		for _, l := range out {
			for slot := -1; slot < slots; slot++ {
				longer = append(longer, append(slices.Clone(l), slot))
			}
		}
		out = longer
	}
	return out
}

// worth returns the value of a plan, and whether it is one.
func worth(l []headend.Job, slots, plan []int) (int, bool) {
	sum, used := 0, map[int]int{}
	for i, slot := range plan {
		if slot < 0 {
			continue
		}
		sum += l[i].Value
		used[slot] += l[i].Hops
		if slot > l[i].Deadline || used[slot] > slots[slot] {
			return 0, false
		}
	}
	return sum, true
}
