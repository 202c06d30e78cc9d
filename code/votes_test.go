package code_test

import (
	"math"
	"math/rand"
	"testing"

	"kilovar/api"
	"kilovar/code"
)

// P3.4

func TestRepeated(t *testing.T) {
	for _, x := range []struct {
		l     []int
		times int
		want  [][]int
		e     api.Errno
	}{
		{ints(1, 2), 3, lists(ints(1, 2), ints(1, 2), ints(1, 2)), api.OK}, {ints(16), 1, lists(ints(16)), api.OK}, {nil, 2, lists(nil, nil), api.OK}, {make([]int, 16), 15, repeated(make([]int, 16), 15), api.OK},
		{ints(1), 0, nil, api.ErrRange}, {ints(1), 16, nil, api.ErrRange}, {ints(1), -1, nil, api.ErrRange}, {nil, math.MinInt, nil, api.ErrRange}, {ints(1), math.MaxInt, nil, api.ErrRange},
		{make([]int, 17), 1, nil, api.ErrMany}, {make([]int, 256), 15, nil, api.ErrMany}, {make([]int, 17), 0, nil, api.ErrRange}, {make([]int, 17), 16, nil, api.ErrRange}, {append(make([]int, 16), 17), 1, nil, api.ErrRange},
	} {
		l, e := code.Repeated(x.l, x.times)
		same(t, "Repeated", all(l, e), all(x.want, x.e))
	}
	for _, x := range freeErrors {
		l, e := code.Repeated(x.l, 0)
		same(t, "Repeated with errors", all(l, e), all(lists(), x.e))
	}
}

func TestVoted(t *testing.T) {
	for _, x := range []struct {
		l         [][]int
		v, erased []int
	}{
		{lists(ints(1, 2, 3), ints(1, 2, 4), ints(1, 5, 6)), ints(1, 2, 0), ints(2)},
		{lists(ints(7, 8)), ints(7, 8), nil},
		{lists(ints(1), ints(2)), ints(0), ints(0)},
		{lists(ints(1), ints(2), ints(3), ints(3)), ints(3), nil}, // not more than half
		{lists(ints(3), ints(3), ints(1), ints(2)), ints(3), nil},
		{lists(ints(16), ints(16), ints(0)), ints(16), nil},
		{lists(ints(0), ints(0), ints(16)), ints(0), nil},
		{lists(ints(1), ints(1), ints(2), ints(2), ints(0)), ints(0), ints(0)},
		{lists(ints(0, 1, 0), ints(1, 1, 2)), ints(0, 1, 0), ints(0, 2)},
		{lists(ints(0, 16), ints(16, 0)), ints(0, 0), ints(0, 1)},
		{lists(nil), nil, nil},
		{lists(nil, ints(), nil), nil, nil},
		{repeated(repeated(16, 16), 15), repeated(16, 16), nil},
	} {
		v, erased, e := code.Voted(x.l)
		same(t, "Voted", all(x.l, v, erased, e), all(x.l, x.v, x.erased, api.OK))
	}
}

func TestVotedWithErrors(t *testing.T) {
	for _, x := range rowErrors {
		v, erased, e := code.Voted(x.rows)
		same(t, "Voted with errors", all(x.rows, v, erased, e), all(x.rows, ints(), ints(), x.e))
	}
	for _, l := range [][][]int{make([][]int, 16), repeated(ints(17), 16), append(make([][]int, 15), ints(1)), repeated(make([]int, 17), 16)} {
		v, erased, e := code.Voted(l)
		same(t, "Voted of too many lists", all(v, erased, e), all(ints(), ints(), api.ErrMany))
	}
}

func TestRandomVotes(t *testing.T) {
	r := rand.New(rand.NewSource(8))
	for range 500 {
		l := make([][]int, 1+r.Intn(15))
		counts := [16][17]int{}
		kinds := 1 + r.Intn(17)
		for i := range l {
			for k := range counts {
				x := 16 - r.Intn(kinds)
				l[i] = append(l[i], x)
				counts[k][x]++
			}
		}
		var want, none []int
		for k := range counts {
			lead := -1
			for x, n := range counts[k] {
				leads := true
				for y, m := range counts[k] {
					leads = leads && (x == y || n > m)
				}
				if leads {
					lead = x
				}
			}
			if lead < 0 {
				none = append(none, k)
			}
			want = append(want, max(lead, 0))
		}
		v, erased, e := code.Voted(l)
		same(t, "Voted", all(v, erased, e), all(want, none, api.OK))
	}
}

func TestNibbles(t *testing.T) {
	for _, x := range []struct {
		b []byte
		l []int
	}{
		{[]byte{171}, ints(10, 11)}, {[]byte{171, 0, 15}, ints(10, 11, 0, 0, 0, 15)}, {[]byte{255, 16, 1}, ints(15, 15, 1, 0, 0, 1)}, {nil, nil}, {make([]byte, 128), make([]int, 256)},
	} {
		l, e := code.Nibbles(x.b)
		same(t, "Nibbles", all(l, e), all(x.l, api.OK))
		b, e := code.Packed(x.l)
		same(t, "Packed", all(b, e), all(x.b, api.OK))
	}
	l, e := code.Nibbles(make([]byte, 129))
	same(t, "Nibbles of too many bytes", all(l, e), all(ints(), api.ErrMany))
}

func TestPackedWithErrors(t *testing.T) {
	for _, x := range []struct {
		l []int
		e api.Errno
	}{
		{ints(1), api.ErrShape}, {ints(1, 2, 3), api.ErrShape}, {ints(16), api.ErrShape}, {ints(1, 16, 3), api.ErrShape}, {make([]int, 255), api.ErrShape},
		{ints(1, 16), api.ErrForm}, {ints(16, 1), api.ErrForm}, {ints(1, 2, 3, 16), api.ErrForm}, {ints(1, 17), api.ErrRange}, {ints(16, 17), api.ErrRange},
	} {
		b, e := code.Packed(x.l)
		same(t, "Packed with errors", all(x.l, b, e), all(x.l, []byte{}, x.e))
	}
	for _, x := range freeErrors {
		b, e := code.Packed(x.l)
		same(t, "Packed with errors of symbols", all(b, e), all([]byte{}, x.e))
	}
}
