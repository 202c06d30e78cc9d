package headend_test

import (
	"math/rand"
	"slices"
	"strconv"
	"testing"

	"kilovar/api"
	"kilovar/headend"
)

// P10.3

// wrongJobs returns jobs and slots with their errors; those with several have the first one.
func wrongJobs() map[api.Errno][]struct {
	l     []headend.Job
	slots []int
} {
	type wrong = struct {
		l     []headend.Job
		slots []int
	}
	ok := job("w", 0, 1, 0)
	out := map[api.Errno][]wrong{
		api.ErrMany:  {{make([]headend.Job, 8), ints(-1)}, {slices.Repeat([]headend.Job{ok}, 8), nil}, {nil, make([]int, 6)}, {jobs(), ints(-1, 0, 0, 0, 0, 0)}},
		api.ErrTwice: {{[]headend.Job{ok, ok}, nil}, {[]headend.Job{ok, job("w", -1, 0, -1)}, make([]int, 6)}, {[]headend.Job{ok, job("v", 0, 1, 0), ok, {}}, ints(-1)}},
	}
	for _, name := range wrongNames() {
		out[api.ErrName] = append(out[api.ErrName], wrong{[]headend.Job{job(name, -1, 0, -1)}, make([]int, 6)}, wrong{[]headend.Job{ok, job(name, 0, 1, 0)}, nil}, wrong{[]headend.Job{job(name, 0, 1, 0), job(name, 0, 1, 0)}, nil})
	}
	for _, n := range outside(0, 4) {
		out[api.ErrRange] = append(out[api.ErrRange], wrong{[]headend.Job{ok, job("v", n, 1, 0)}, make([]int, 6)})
	}
	for _, n := range outside(1, 15) {
		out[api.ErrRange] = append(out[api.ErrRange], wrong{[]headend.Job{job("v", 4, n, 0), {}}, nil})
	}
	for _, n := range outside(0, 1000) {
		out[api.ErrRange] = append(out[api.ErrRange], wrong{[]headend.Job{job("v", 4, 15, n), {}}, nil})
	}
	for _, n := range outside(0, 100) {
		out[api.ErrRange] = append(out[api.ErrRange], wrong{jobs(), ints(n)}, wrong{nil, ints(100, 0, n)})
	}
	return out
}

func TestCheckJobs(t *testing.T) {
	same(t, "the jobs of the examples", headend.CheckJobs(jobs(), ints(4, 4)), api.OK)
	same(t, "nothing", headend.CheckJobs(nil, nil), api.OK)
	var most []headend.Job
	for _, name := range named(7, "n") {
		most = append(most, job(name, 4, 15, 1000))
	}
	same(t, "the most", headend.CheckJobs(most, slices.Repeat(ints(100), 5)), api.OK)
	same(t, "the least", headend.CheckJobs([]headend.Job{job("a", 0, 1, 0)}, ints(0)), api.OK)
	for e, l := range wrongJobs() {
		for _, x := range l {
			plan := ints(slices.Repeat(ints(9), len(x.l)+1)...)
			same(t, "CheckJobs", headend.CheckJobs(x.l, x.slots), e)
			same(t, "CheckPlan", all(headend.CheckPlan(x.l, x.slots, plan)), all(0, e))
			same(t, "Plan", all(headend.Plan(x.l, x.slots)), all([]int{}, 0, e))
			same(t, "Bound", all(headend.Bound(x.l, x.slots, ints(-1, 1001))), all(0, e))
		}
	}
}

func TestCheckPlan(t *testing.T) {
	for i, x := range []struct {
		slots, plan []int
		value       int
		e           api.Errno
	}{
		{ints(4, 4), ints(0, 1, -1), 9, api.OK}, {ints(4, 4), ints(-1, 0, 1), 7, api.OK}, {ints(4, 4), ints(-1, -1, -1), 0, api.OK}, {ints(4, 5), ints(0, 1, 1), 12, api.OK}, {ints(8), ints(0, 0, 0), 12, api.OK}, {nil, ints(-1, -1, -1), 0, api.OK},
		{ints(4, 4), ints(0, 1), 0, api.ErrShape}, {ints(4, 4), ints(0, 1, -1, -1), 0, api.ErrShape}, {ints(4, 4), nil, 0, api.ErrShape}, {ints(4, 4), ints(9, 9), 0, api.ErrShape},
		{ints(4, 4), ints(0, 2, 0), 0, api.ErrUnknown}, {ints(4, 4), ints(0, 0, -2), 0, api.ErrUnknown}, {ints(4, 4), ints(1, 1, 2), 0, api.ErrUnknown}, {nil, ints(-1, 0, -1), 0, api.ErrUnknown},
		{ints(4, 4), ints(1, 0, -1), 0, api.ErrOver}, {ints(0, 0, 9), ints(-1, 2, -1), 0, api.ErrOver}, {ints(0, 0), ints(1, 1, 1), 0, api.ErrOver}, {ints(0, 0, 0), ints(0, 0, 2), 0, api.ErrOver},
		{ints(4, 4), ints(0, -1, 0), 0, api.ErrLarge}, {ints(4, 4), ints(-1, 1, 1), 0, api.ErrLarge}, {ints(2, 100), ints(0, 1, 1), 0, api.ErrLarge}, {ints(7), ints(0, 0, 0), 0, api.ErrLarge}, {ints(0), ints(-1, -1, 0), 0, api.ErrLarge},
	} {
		same(t, "CheckPlan "+strconv.Itoa(i), all(headend.CheckPlan(jobs(), x.slots, x.plan)), all(x.value, x.e))
	}
	for _, slot := range outside(-1, 1) {
		same(t, "no slot", all(headend.CheckPlan(jobs(), ints(4, 4), ints(-1, -1, slot))), all(0, api.ErrUnknown))
	}
	same(t, "nothing", all(headend.CheckPlan(nil, nil, nil)), all(0, api.OK))
	same(t, "a deadline beyond the last slot", all(headend.CheckPlan([]headend.Job{job("x", 4, 3, 5)}, ints(0, 3), ints(1))), all(5, api.OK))
}

func TestPlan(t *testing.T) {
	for i, x := range []struct {
		slots, plan []int
		value       int
	}{
		{ints(4, 4), ints(0, 1, -1), 9}, {ints(4, 5), ints(0, 1, 1), 12}, {ints(5), ints(0, -1, 0), 8}, {nil, ints(-1, -1, -1), 0}, {ints(0, 0), ints(-1, -1, -1), 0}, {ints(8), ints(0, 0, 0), 12}, {ints(0, 4), ints(-1, 1, -1), 4}, {ints(2, 0, 100), ints(-1, -1, 0), 3}, {ints(100, 100), ints(0, 0, 0), 12},
	} {
		same(t, "Plan "+strconv.Itoa(i), all(headend.Plan(jobs(), x.slots)), all(x.plan, x.value, api.OK))
	}
	same(t, "nothing", all(headend.Plan(nil, ints(5))), all([]int{}, 0, api.OK))
	equal := []headend.Job{job("x", 4, 1, 2), job("y", 4, 1, 2), job("z", 4, 1, 0)}
	same(t, "of equal plans the first one", all(headend.Plan(equal, ints(1, 0, 1))), all(ints(0, 2, -1), 4, api.OK))
	same(t, "jobs without a value", all(headend.Plan(equal, ints(1))), all(ints(-1, 0, -1), 2, api.OK))
	same(t, "one of value 0 alone", all(headend.Plan(equal[2:], ints(9, 9))), all(ints(-1), 0, api.OK))
}

func TestBound(t *testing.T) {
	for i, x := range []struct {
		slots, prices []int
		bound         int
		e             api.Errno
	}{
		{ints(4, 4), ints(1, 1), 12, api.OK}, {ints(4, 4), ints(2, 1), 14, api.OK}, {ints(4, 4), ints(0, 0), 12, api.OK}, {ints(4, 4), ints(1000, 1000), 8000, api.OK}, {nil, nil, 0, api.OK}, {ints(0), ints(1000), 0, api.OK}, {ints(4, 4, 0), ints(1000, 1000, 0), 8000, api.OK}, {ints(0, 0), ints(1000, 0), 7, api.OK},
		{ints(4, 4), ints(1), 0, api.ErrShape}, {ints(4, 4), ints(1, 1, 1), 0, api.ErrShape}, {ints(4, 4), nil, 0, api.ErrShape}, {nil, ints(-1), 0, api.ErrShape}, {ints(4), ints(-1, 1001), 0, api.ErrShape},
	} {
		same(t, "Bound "+strconv.Itoa(i), all(headend.Bound(jobs(), x.slots, x.prices)), all(x.bound, x.e))
	}
	for _, price := range outside(0, 1000) {
		same(t, "no price", all(headend.Bound(jobs(), ints(4, 4), ints(1000, price))), all(0, api.ErrRange))
	}
	same(t, "a deadline beyond the last slot", all(headend.Bound([]headend.Job{job("x", 4, 3, 50)}, ints(0, 3), ints(9, 4))), all(12+38, api.OK))
}

// TestPlansOfRandomJobs compares plans with all that there are.
func TestPlansOfRandomJobs(t *testing.T) {
	r := rand.New(rand.NewSource(5))
	for range 400 {
		l, slots := randomJobs(r, 4), randomSlots(r, 4, 100)
		var best []int
		most := -1
		for _, plan := range plans(len(l), len(slots)) {
			value, is := worth(l, slots, plan)
			got, e := headend.CheckPlan(l, slots, plan)
			same(t, "CheckPlan", all(got, e == api.OK), all(value, is))
			if is && value > most {
				best, most = plan, value
			}
		}
		same(t, "Plan", all(headend.Plan(l, slots)), all(append([]int{}, best...), most, api.OK))
	}
}

// TestBoundsOfRandomJobs computes bounds slot by slot.
func TestBoundsOfRandomJobs(t *testing.T) {
	r := rand.New(rand.NewSource(6))
	for range 1000 {
		l, slots := randomJobs(r, 7), randomSlots(r, 5, 100)
		var prices []int
		bound, gains := 0, make([]int, len(l))
		for slot, room := range slots {
			price := pick(r, 0, 1, r.Intn(10), r.Intn(1001))
			prices = append(prices, price)
			bound += room * price
			for i, j := range l {
				if j.Deadline >= slot {
					gains[i] = max(gains[i], j.Value-j.Hops*price)
				}
			}
		}
		for _, gain := range gains {
			bound += gain
		}
		same(t, "Bound", all(headend.Bound(l, slots, prices)), all(bound, api.OK))
	}
}
