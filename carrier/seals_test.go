package carrier_test

import (
	"math"
	"math/rand"
	"testing"

	"kilovar/api"
	"kilovar/carrier"
)

// P1.3

func TestBits(t *testing.T) {
	l, e := carrier.Bits([]byte{27, 128, 1})
	sameResult(t, "Bits", l, e, ints(0, 0, 0, 1, 1, 0, 1, 1, 1, 0, 0, 0, 0, 0, 0, 0, 0, 0, 0, 0, 0, 0, 0, 1), api.OK)
	l, e = carrier.Bits(nil)
	sameResult(t, "Bits of nothing", l, e, nil, api.OK)
	l, e = carrier.Bits(repeated(byte(255), 256))
	sameResult(t, "Bits of the most", l, e, repeated(1, 2048), api.OK)
	l, e = carrier.Bits(make([]byte, 257))
	sameResult(t, "Bits of too many", l, e, nil, api.ErrMany)
}

func TestBytes(t *testing.T) {
	for _, x := range []struct {
		bits []int
		s    []byte
		e    api.Errno
	}{
		{ints(0, 0, 0, 1, 1, 0, 1, 1, 1, 0, 0, 0, 0, 0, 0, 0), []byte{27, 128}, api.OK},
		{nil, nil, api.OK},
		{repeated(1, 2048), repeated(byte(255), 256), api.OK},
		{repeated(1, 2049), nil, api.ErrMany}, {repeated(1, 2056), nil, api.ErrMany}, {repeated(7, 2049), nil, api.ErrMany},
		{ints(0, 1), nil, api.ErrShape}, {repeated(0, 7), nil, api.ErrShape}, {repeated(0, 9), nil, api.ErrShape}, {repeated(0, 12), nil, api.ErrShape},
		{ints(0, 0, 0, 0, 0, 0, 0, 2), nil, api.ErrRange}, {ints(-1, 0, 0, 0, 0, 0, 0, 0), nil, api.ErrRange}, {ints(0, 2), nil, api.ErrRange}, {ints(math.MinInt), nil, api.ErrRange},
	} {
		s, e := carrier.Bytes(x.bits)
		sameResult(t, "Bytes", s, e, x.s, x.e)
	}
}

func TestPhases(t *testing.T) {
	for _, x := range []struct {
		bits, phases []int
		e            api.Errno
	}{
		{ints(0, 0, 0, 1, 1, 0, 1, 1), ints(0, 1, 3, 2), api.OK},
		{nil, nil, api.OK},
		{repeated(1, 512), repeated(2, 256), api.OK},
		{ints(1), nil, api.ErrShape}, {ints(1, 0, 1), nil, api.ErrShape}, {make([]int, 511), nil, api.ErrShape}, {make([]int, 513), nil, api.ErrShape}, {make([]int, 2047), nil, api.ErrShape},
		{make([]int, 514), nil, api.ErrMany}, {make([]int, 2048), nil, api.ErrMany}, {make([]int, 2049), nil, api.ErrMany}, {repeated(5, 2049), nil, api.ErrMany},
		{ints(0, -1), nil, api.ErrRange}, {ints(0, 2), nil, api.ErrRange}, {ints(3), nil, api.ErrRange}, {repeated(2, 514), nil, api.ErrRange},
	} {
		phases, e := carrier.Phases(x.bits)
		sameResult(t, "Phases", phases, e, x.phases, x.e)
	}
}

func TestUnphased(t *testing.T) {
	for _, x := range []struct {
		phases, bits []int
		e            api.Errno
	}{
		{ints(0, 1, 2, 3), ints(0, 0, 0, 1, 1, 1, 1, 0), api.OK},
		{nil, nil, api.OK},
		{repeated(2, 256), repeated(1, 512), api.OK},
		{repeated(2, 257), nil, api.ErrMany}, {repeated(9, 257), nil, api.ErrMany},
		{ints(4), nil, api.ErrRange}, {ints(0, -1), nil, api.ErrRange}, {ints(math.MaxInt), nil, api.ErrRange},
	} {
		bits, e := carrier.Unphased(x.phases)
		sameResult(t, "Unphased", bits, e, x.bits, x.e)
	}
}

func TestDistance(t *testing.T) {
	for _, x := range []struct {
		a, b []byte
		n    int
		e    api.Errno
	}{
		{[]byte{1, 2}, []byte{3, 4}, 3, api.OK},
		{nil, []byte{}, 0, api.OK},
		{[]byte{0, 170}, []byte{255, 85}, 16, api.OK},
		{[]byte{7, 129}, []byte{7, 0}, 2, api.OK},
		{make([]byte, 256), repeated(byte(255), 256), 2048, api.OK},
		{[]byte{1}, nil, 0, api.ErrShape}, {nil, []byte{1}, 0, api.ErrShape}, {[]byte{1, 2}, []byte{1, 2, 3}, 0, api.ErrShape},
		{make([]byte, 257), make([]byte, 257), 0, api.ErrMany}, {make([]byte, 257), nil, 0, api.ErrMany}, {nil, make([]byte, 257), 0, api.ErrMany},
	} {
		n, e := carrier.Distance(x.a, x.b)
		same(t, "Distance", n, x.n)
		same(t, "Distance: error", e, x.e)
	}
}

// sealedBy computes a seal with integers and remainders.
func sealedBy(key api.Key, s []byte) api.Key {
	var out api.Key
	for j := range 8 {
		x := int(key[j])
		for _, b := range s {
			x = ((2*j+3)*x + int(b) + j) % 256
		}
		out[j] = byte(x)
	}
	return out
}

func TestSeal(t *testing.T) {
	for _, x := range []struct {
		key  api.Key
		s    []byte
		want api.Key
	}{
		{api.Key{}, []byte{5}, api.Key{5, 6, 7, 8, 9, 10, 11, 12}},
		{api.Key{}, []byte{5, 1}, api.Key{16, 32, 52, 76, 104, 136, 172, 212}},
		{api.Key{100, 1}, []byte{0}, api.Key{44, 6, 2, 3, 4, 5, 6, 7}},
		{api.Key{9, 8, 7, 6, 5, 4, 3, 2}, nil, api.Key{9, 8, 7, 6, 5, 4, 3, 2}},
	} {
		seal, e := carrier.Seal(x.key, x.s)
		same(t, "Seal", seal, x.want)
		same(t, "Seal: error", e, api.OK)
	}
	r := rand.New(rand.NewSource(3))
	for n := range 300 {
		key, s := randomKey(r), randomBytes(r, n)
		seal, e := carrier.Seal(key, s)
		same(t, "Seal", seal, sealedBy(key, s))
		same(t, "Seal: error", e, api.OK)
	}
}

func TestSealOfLong(t *testing.T) {
	s := repeated(byte(77), 400001)
	seal, e := carrier.Seal(api.Key{1}, s[:400000])
	same(t, "Seal of the longest", seal, sealedBy(api.Key{1}, s[:400000]))
	same(t, "Seal of the longest: error", e, api.OK)
	seal, e = carrier.Seal(api.Key{1}, s)
	same(t, "Seal of too much", seal, api.Key{})
	same(t, "Seal of too much: error", e, api.ErrLong)
}

func TestChain(t *testing.T) {
	blocks := []api.Block{{1}, {2, 15: 9}, {}, {200, 7}}
	var want []api.Key
	seal := api.Key{7, 7: 250}
	for _, b := range blocks {
		seal = sealedBy(seal, b[:])
		want = append(want, seal)
	}
	l, e := carrier.Chain(api.Key{7, 7: 250}, blocks)
	sameResult(t, "Chain", l, e, want, api.OK)
	l, e = carrier.Chain(api.Key{7}, nil)
	sameResult(t, "Chain of nothing", l, e, nil, api.OK)
	l, e = carrier.Chain(api.Key{7}, make([]api.Block, 256))
	same(t, "Chain of the most", len(l), 256)
	same(t, "Chain of the most: error", e, api.OK)
	l, e = carrier.Chain(api.Key{7}, make([]api.Block, 257))
	sameResult(t, "Chain of too many", l, e, nil, api.ErrMany)
}

func TestCheckChain(t *testing.T) {
	key, blocks := api.Key{7}, []api.Block{{1}, {2}, {3}}
	seals := value(carrier.Chain(key, blocks))
	most := make([]api.Block, 256)
	for _, x := range []struct {
		key   api.Key
		l     []api.Block
		seals []api.Key
		at    int
		e     api.Errno
	}{
		{key, blocks, seals, 0, api.OK},
		{key, nil, nil, 0, api.OK},
		{key, most, value(carrier.Chain(key, most)), 0, api.OK},
		{api.Key{8}, blocks, seals, 0, api.ErrCheck},
		{key, blocks, []api.Key{seals[1], seals[1], seals[2]}, 0, api.ErrCheck},
		{key, blocks, []api.Key{seals[0], seals[0], seals[2]}, 1, api.ErrCheck},
		{key, blocks, []api.Key{seals[0], seals[0], seals[0]}, 1, api.ErrCheck},
		{key, blocks, []api.Key{seals[0], seals[1], {}}, 2, api.ErrCheck},
		{key, []api.Block{{1}, {3}, {2}}, seals, 1, api.ErrCheck},
		{key, blocks, seals[:2], 0, api.ErrShape}, {key, blocks[:2], seals, 0, api.ErrShape}, {key, blocks, nil, 0, api.ErrShape}, {key, nil, seals, 0, api.ErrShape},
		{key, blocks, append(make([]api.Key, 3), seals...), 0, api.ErrShape},
		{key, make([]api.Block, 257), nil, 0, api.ErrMany}, {key, nil, make([]api.Key, 257), 0, api.ErrMany}, {key, make([]api.Block, 257), make([]api.Key, 257), 0, api.ErrMany},
	} {
		at, e := carrier.CheckChain(x.key, x.l, x.seals)
		same(t, "CheckChain", at, x.at)
		same(t, "CheckChain: error", e, x.e)
	}
}
