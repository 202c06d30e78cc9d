package code_test

import (
	"math/rand"
	"slices"
	"testing"

	"kilovar/api"
	"kilovar/code"
)

// P3.5

func TestMessagesComeBack(t *testing.T) {
	r := rand.New(rand.NewSource(9))
	for _, c := range allCodes(15) {
		for range 10 {
			message := randomSymbols(r, c.Length-c.Checks)
			w, e := code.Encode(c, message)
			same(t, "Encode: error", e, api.OK)
			m, e := code.Message(c, w)
			same(t, "the message of the word of a message", all(m, e), all(message, api.OK))
		}
	}
}

func TestSumsAndMultiplesAreWords(t *testing.T) {
	r := rand.New(rand.NewSource(10))
	for _, c := range allCodes(15) {
		a, b := randomWord(r, c), randomWord(r, c)
		for factor := range 17 {
			var sum []int
			for i := range a {
				sum = append(sum, (a[i]+factor*b[i])%17)
			}
			is, e := code.IsWord(c, sum)
			same(t, "a sum with a multiple", all(is, e), all(true, api.OK))
		}
	}
}

func TestWordsAreFarFromEachOther(t *testing.T) {
	r := rand.New(rand.NewSource(11))
	for _, c := range allCodes(15) {
		least := c.Length
		for range 50 {
			a := randomSymbols(r, c.Length-c.Checks)
			b := slices.Clone(a)
			if r.Intn(4) == 0 {
				b = randomSymbols(r, len(a))
			} else {
				i := r.Intn(len(a))
				b[i] = (b[i] + 1 + r.Intn(16)) % 17
			}
			if slices.Equal(a, b) {
				continue
			}
			n, e := code.Distance(value(code.Encode(c, a)), value(code.Encode(c, b)))
			same(t, "Distance: error", e, api.OK)
			least = min(least, n)
		}
		if least <= c.Checks {
			t.Errorf("two words of %v have the distance %d", c, least)
		}
	}
}

// damage returns a list with some erased places and other ones that are wrong, beside the places that differ from the word.
func damage(r *rand.Rand, w []int, erased, errors int) (l, places, differing []int) {
	order := r.Perm(len(w))
	places = order[:erased]
	differing = slices.Clone(order[erased : erased+errors])
	for _, i := range places {
		if r.Intn(3) > 0 {
			differing = append(differing, i)
		}
	}
	return spoilt(r, w, differing...), places, sorted(differing)
}

func TestWithinTheBoundAllIsUndone(t *testing.T) {
	r := rand.New(rand.NewSource(12))
	for _, c := range allCodes(15) {
		for erased := range c.Checks + 1 {
			for errors := 0; 2*errors+erased <= c.Checks; errors++ {
				for range 3 {
					w := randomWord(r, c)
					l, places, differing := damage(r, w, erased, errors)
					d, p, e := code.Decode(c, l, places)
					same(t, "Decode", all(c, l, places, d, p, e), all(c, l, places, w, differing, api.OK))
				}
			}
		}
	}
}

// TestBeyondTheBoundNothingIsGuessed spoils one place more than the bound permits, where that leads to no other word: if the checks that erased places leave are odd.
func TestBeyondTheBoundNothingIsGuessed(t *testing.T) {
	r := rand.New(rand.NewSource(13))
	for _, c := range allCodes(15) {
		for erased := range c.Checks {
			if spare := c.Checks - erased; spare%2 == 1 && erased+spare/2+1 <= c.Length {
				w := randomWord(r, c)
				l, places, _ := damage(r, w, erased, spare/2+1)
				d, p, e := code.Decode(c, l, places)
				same(t, "Decode", all(c, l, places, d, p, e), all(c, l, places, ints(), ints(), api.ErrCheck))
			}
		}
		for erased := c.Checks + 1; erased <= c.Length; erased++ {
			d, p, e := code.Decode(c, randomWord(r, c), r.Perm(c.Length)[:erased])
			same(t, "Decode of too many erased places", all(d, p, e), all(ints(), ints(), api.ErrCheck))
		}
	}
}

func TestWhatIsDecodedIsAWordWithinTheBound(t *testing.T) {
	r := rand.New(rand.NewSource(14))
	decoded, refused := 0, 0
	for _, c := range allCodes(15) {
		for range 20 {
			l, erased := randomSymbols(r, c.Length), r.Perm(c.Length)[:r.Intn(c.Checks+1)]
			w, places, e := code.Decode(c, l, erased)
			if e != api.OK {
				refused++
				same(t, "Decode: error", e, api.ErrCheck)
				continue
			}
			decoded++
			if !isWordOf(c, w) {
				t.Errorf("%v is no word of %v", w, c)
			}
			errors := 0
			for i := range w {
				same(t, "a place that differs", slices.Contains(places, i), w[i] != l[i])
				if w[i] != l[i] && !slices.Contains(erased, i) {
					errors++
				}
			}
			if 2*errors+len(erased) > c.Checks || !slices.IsSorted(places) {
				t.Errorf("%v with %v erased is not within the bound of %v", l, erased, c)
			}
		}
	}
	if decoded == 0 || refused == 0 {
		t.Errorf("%d lists are decoded, %d are refused", decoded, refused)
	}
}

func TestNoWordIsNearer(t *testing.T) {
	r := rand.New(rand.NewSource(15))
	for _, c := range allCodes(2) {
		l := randomDecisions(r, randomSymbols(r, c.Length))
		nearest, least, e := code.Nearest(c, l)
		same(t, "Nearest: error", e, api.OK)
		n, e := code.Cost(c, l, nearest)
		same(t, "the cost of the nearest word", all(n, e), all(least, api.OK))
		second, e := code.Second(c, l)
		same(t, "Second", all(second >= least, e), all(true, api.OK))
		reached := false
		for _, w := range wordsOf(c) {
			n, e := code.Cost(c, l, w)
			same(t, "Cost: error", e, api.OK)
			if slices.Equal(w, nearest) {
				continue
			}
			reached = reached || n == second
			if n < second {
				t.Errorf("%v is nearer than the second cost %d of %v", w, second, l)
			}
		}
		same(t, "a word has the second cost", reached, true)
	}
}

func TestEqualTrustsLeadToTheDecodedWord(t *testing.T) {
	r := rand.New(rand.NewSource(16))
	for _, c := range allCodes(2) {
		for range 5 {
			w := randomWord(r, c)
			l, _, differing := damage(r, w, 0, c.Checks/2)
			trust := float32(1+r.Intn(16384)) / 16
			d, _, e := code.Decode(c, l, nil)
			same(t, "Decode", all(d, e), all(w, api.OK))
			n, cost, e := code.Nearest(c, decided(l, trust))
			same(t, "Nearest", all(n, cost, e), all(d, len(differing)*int(16*trust), api.OK))
		}
	}
}

func TestRowsComeBack(t *testing.T) {
	r := rand.New(rand.NewSource(17))
	for rows := 1; rows <= 16; rows++ {
		for length := range 17 {
			var l [][]int
			for range rows {
				l = append(l, randomSymbols(r, length))
			}
			s, e := code.Spread(l)
			same(t, "Spread", all(len(s), e), all(rows*length, api.OK))
			g, e := code.Gathered(s, rows)
			same(t, "rows that are gathered again", all(g, e), all(l, api.OK))
			again, e := code.Spread(g)
			same(t, "a list that is spread again", all(again, e), all(s, api.OK))
		}
	}
}

// TestBurstsAreSurvived spoils as many successive symbols of spread words as their code survives.
func TestBurstsAreSurvived(t *testing.T) {
	r := rand.New(rand.NewSource(18))
	for _, c := range allCodes(15) {
		rows, told := 1+r.Intn(16), r.Intn(2) == 0
		many := 0
		for many < rows*c.Length && value(code.Survives(c, rows, many+1, told)) {
			many++
		}
		var words [][]int
		for range rows {
			words = append(words, randomWord(r, c))
		}
		s := value(code.Spread(words))
		hit := make([]int, len(s))
		from := r.Intn(len(s) - many + 1)
		for i := from; i < from+many; i++ {
			s, hit[i] = spoilt(r, s, i), 1
		}
		hits := value(code.Gathered(hit, rows))
		for i, l := range value(code.Gathered(s, rows)) {
			var places, erased []int
			for k, x := range hits[i] {
				if x == 1 {
					places = append(places, k)
				}
			}
			if len(places) > value(code.Burst(rows, c.Length, many)) {
				t.Errorf("a burst of %d symbols hits %v of %v", many, places, c)
			}
			if told {
				erased = places
			}
			w, p, e := code.Decode(c, l, erased)
			same(t, "a word behind a burst", all(w, p, e), all(words[i], places, api.OK))
		}
	}
}

func TestAListIsItsOwnVote(t *testing.T) {
	r := rand.New(rand.NewSource(19))
	for length := range 17 {
		l := randomSymbols(r, length)
		v, erased, e := code.Voted(lists(l))
		same(t, "the vote of a list", all(v, erased, e), all(l, ints(), api.OK))
		for times := 1; times <= 15; times++ {
			v, erased, e := code.Voted(value(code.Repeated(l, times)))
			same(t, "the vote of a repeated list", all(v, erased, e), all(l, ints(), api.OK))
		}
	}
}

func TestBytesComeBack(t *testing.T) {
	for x := range 256 {
		l, e := code.Nibbles([]byte{byte(x), byte(255 - x)})
		same(t, "Nibbles", all(l, e), all(ints(x/16, x%16, 15-x/16, 15-x%16), api.OK))
		b, e := code.Packed(l)
		same(t, "bytes that come back", all(b, e), all([]byte{byte(x), byte(255 - x)}, api.OK))
	}
}

func TestTextsComeBack(t *testing.T) {
	r := rand.New(rand.NewSource(20))
	for _, c := range allCodes(15) {
		l := randomSymbols(r, c.Length)
		text, e := code.Print(c, l)
		same(t, "Print: error", e, api.OK)
		back, list, e := code.Parse(text)
		same(t, "a list that comes back", all(back, list, e), all(c, l, api.OK))
	}
}
