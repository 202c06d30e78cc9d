package headend_test

import (
	"math"
	"slices"
	"strconv"
	"strings"
	"testing"

	"kilovar/api"
	"kilovar/headend"
)

// P10.1: CheckEvent

// forms has the number of names and of values of each kind.
func forms() map[string][2]int {
	return map[string][2]int{
		"office": {1, 1}, "meter": {1, 1}, "route": {1, 2}, "due": {2, 2}, "try": {1, 1}, "done": {1, 2}, "miss": {1, 2}, "tariff": {1, 3}, "token": {2, 2},
		"use": {1, 1}, "spend": {1, 2}, "arm": {2, 1}, "order": {2, 1}, "cut": {1, 1}, "restore": {1, 1}, "undo": {0, 0},
	}
}

// formed returns an event with as many names and values.
func formed(kind string, names, values int) api.Event {
	return api.Event{Number: 1, Kind: kind, Names: named(names, "n"), Values: slices.Repeat(ints(7), values)}
}

func TestCheckEventOfEachKind(t *testing.T) {
	for kind, n := range forms() {
		e := formed(kind, n[0], n[1])
		same(t, kind, headend.CheckEvent(e), api.OK)
		for names := range 4 {
			for values := range 5 {
				want := api.ErrShape
				if names == n[0] && values == n[1] {
					want = api.OK
				}
				same(t, kind+" with other numbers", headend.CheckEvent(formed(kind, names, values)), want)
			}
		}
		for i := range e.Names {
			for _, name := range wrongNames() {
				x := formed(kind, n[0], n[1])
				x.Names[i] = name
				same(t, kind+" of "+strconv.Quote(name), headend.CheckEvent(x), api.ErrName)
			}
		}
		for i := range e.Values {
			for _, v := range append(outside(0, 999999999), 0, 999999999) {
				x := formed(kind, n[0], n[1])
				x.Values[i] = v
				want := api.ErrRange
				if v == 0 || v == 999999999 {
					want = api.OK
				}
				same(t, kind+" at "+strconv.Itoa(v), headend.CheckEvent(x), want)
			}
		}
	}
}

func TestCheckEventOfNumbersKindsAndTexts(t *testing.T) {
	for _, n := range outside(1, 1000) {
		same(t, "a number", headend.CheckEvent(eventOf(n, "office a 0")), api.ErrRange)
	}
	same(t, "the greatest number", headend.CheckEvent(eventOf(1000, "office a 0")), api.OK)
	for _, kind := range []string{"", " ", "offices", "offic", "Office", "office ", "undo\n", "credit", "open", "none", "\xff", strings.Repeat("a", 5000)} {
		same(t, "the kind "+kind, headend.CheckEvent(formed(kind, 1, 1)), api.ErrKind)
		same(t, "the kind "+kind+" of nothing", headend.CheckEvent(formed(kind, 0, 0)), api.ErrKind)
	}
	for kind, n := range forms() {
		e := formed(kind, n[0], n[1])
		e.Text = "x"
		same(t, "a text", headend.CheckEvent(e), api.ErrForm)
	}
}

func TestCheckEventReturnsTheFirstError(t *testing.T) {
	wrong := api.Event{Number: 0, Kind: "route", Names: []string{"1"}, Values: ints(-1), Text: "x"}
	for i, x := range []struct {
		change func(e *api.Event)
		e      api.Errno
	}{
		{func(e *api.Event) { e.Kind = "routes" }, api.ErrRange},
		{func(e *api.Event) { e.Number = 5 }, api.ErrKind},
		{func(e *api.Event) { e.Kind = "route" }, api.ErrShape},
		{func(e *api.Event) { e.Values = ints(0, -1) }, api.ErrName},
		{func(e *api.Event) { e.Names = []string{"m"} }, api.ErrRange},
		{func(e *api.Event) { e.Values = ints(0, 0) }, api.ErrForm},
		{func(e *api.Event) { e.Text = "" }, api.OK},
	} {
		x.change(&wrong)
		same(t, "the first error "+strconv.Itoa(i), headend.CheckEvent(wrong), x.e)
	}
	same(t, "the first name", headend.CheckEvent(api.Event{Number: 1, Kind: "arm", Names: []string{"a", "9"}, Values: ints(math.MaxInt)}), api.ErrName)
	same(t, "nothing", headend.CheckEvent(api.Event{}), api.ErrRange)
	same(t, "empty lists", headend.CheckEvent(api.Event{Number: 1, Kind: "undo", Names: []string{}, Values: ints()}), api.OK)
}
