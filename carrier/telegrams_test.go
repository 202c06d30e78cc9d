package carrier_test

import (
	"math"
	"math/rand"
	"slices"
	"testing"

	"kilovar/api"
	"kilovar/carrier"
)

// P1.4

// framed computes the frame of a telegram byte by byte.
func framed(key api.Key, x carrier.Telegram) []byte {
	f := []byte{105, byte(x.Station / 256), byte(x.Station % 256), byte(x.Counter / 256), byte(x.Counter % 256), byte(x.Kind)}
	f = append(f, x.Payload[:]...)
	f = append(f, byte(255-x.Station/256), byte(255-x.Station%256))
	seal := sealedBy(key, f)
	return append(f, seal[:]...)
}

func TestEncode(t *testing.T) {
	f, e := carrier.Encode(api.Key{}, carrier.Telegram{Station: 258, Counter: 7, Kind: 3})
	same(t, "Encode: error", e, api.OK)
	sameList(t, "Encode", f[:24], []byte{105, 1, 2, 0, 7, 3, 22: 254, 253})
	seal := sealedBy(api.Key{}, f[:24])
	sameList(t, "Encode: seal", f[24:], seal[:])
	r := rand.New(rand.NewSource(4))
	list := []carrier.Telegram{{}, {Station: 65535, Counter: 65535, Kind: 255, Payload: api.Block(repeated(byte(255), 16))}}
	for range 100 {
		list = append(list, randomTelegram(r))
	}
	for _, x := range list {
		key := randomKey(r)
		f, e := carrier.Encode(key, x)
		sameResult(t, "Encode", f[:], e, framed(key, x), api.OK)
		back, e := carrier.Decode(key, f)
		same(t, "Decode", back, x)
		same(t, "Decode: error", e, api.OK)
	}
}

// wrongTelegrams has one telegram for each number and each end of its range.
var wrongTelegrams = []carrier.Telegram{
	{Station: -1}, {Station: 65536}, {Counter: -1}, {Counter: 65536}, {Kind: -1}, {Kind: 256},
	{Station: math.MinInt}, {Station: math.MaxInt}, {Counter: math.MinInt}, {Counter: math.MaxInt}, {Kind: math.MinInt}, {Kind: math.MaxInt},
}

func TestEncodeWithErrors(t *testing.T) {
	for _, x := range wrongTelegrams {
		f, e := carrier.Encode(api.Key{1}, x)
		same(t, "Encode beside an error", f, [carrier.Size]byte{})
		same(t, "Encode: error", e, api.ErrRange)
	}
}

// resealed returns a frame with the seal of its other bytes.
func resealed(key api.Key, f [carrier.Size]byte) [carrier.Size]byte {
	seal := sealedBy(key, f[:24])
	copy(f[24:], seal[:])
	return f
}

func TestDecodeWithErrors(t *testing.T) {
	key := api.Key{1, 2, 3}
	good := [carrier.Size]byte(framed(key, carrier.Telegram{Station: 258, Counter: 7, Kind: 3, Payload: api.Block{9}}))
	for at := range carrier.Size {
		for _, reseal := range []bool{false, true} {
			f := good
			f[at] += 100
			wanted := api.ErrCheck
			if at == 0 {
				wanted = api.ErrForm
			}
			if reseal {
				f = resealed(key, f)
				if at > 2 && at != 22 && at != 23 { // the complement is not touched
					wanted = api.OK
				}
			}
			x, e := carrier.Decode(key, f)
			same(t, "Decode of a changed frame", e, wanted)
			if e != api.OK {
				same(t, "Decode beside an error", x, carrier.Telegram{})
			}
		}
	}
	_, e := carrier.Decode(api.Key{}, good)
	same(t, "Decode by another key", e, api.ErrCheck)
	_, e = carrier.Decode(key, [carrier.Size]byte{})
	same(t, "Decode of zero bytes", e, api.ErrForm)
}

func TestReceived(t *testing.T) {
	key := api.Key{1, 2, 3}
	x, y := carrier.Telegram{Station: 258, Counter: 7, Kind: 3}, carrier.Telegram{Station: 4, Payload: api.Block{105, 105}}
	f, g := framed(key, x), framed(key, y)
	damaged := slices.Clone(f)
	damaged[10] ^= 1
	for _, c := range []struct {
		s       []byte
		want    []carrier.Telegram
		skipped []api.Span
	}{
		{nil, nil, nil},
		{[]byte{105}, nil, []api.Span{{To: 1}}},
		{f[:31], nil, []api.Span{{To: 31}}},
		{f, []carrier.Telegram{x}, nil},
		{slices.Concat(f, g), []carrier.Telegram{x, y}, nil},
		{slices.Concat([]byte{7, 105}, f), []carrier.Telegram{x}, []api.Span{{To: 2}}},
		{slices.Concat([]byte{7, 105}, f, f[:5]), []carrier.Telegram{x}, []api.Span{{To: 2}, {From: 34, To: 39}}},
		{slices.Concat(f, []byte{0}, g), []carrier.Telegram{x, y}, []api.Span{{From: 32, To: 33}}},
		{slices.Concat(f, damaged, g, f[:31]), []carrier.Telegram{x, y}, []api.Span{{From: 32, To: 64}, {From: 96, To: 127}}},
		{slices.Concat(f[:20], g), []carrier.Telegram{y}, []api.Span{{To: 20}}},
		{slices.Concat(f, f), []carrier.Telegram{x, x}, nil},
		{make([]byte, 100), nil, []api.Span{{To: 100}}},
	} {
		l, skipped, e := carrier.Received(key, c.s)
		sameResult(t, "Received", l, e, c.want, api.OK)
		sameList(t, "Received: skipped", skipped, c.skipped)
	}
	l, skipped, e := carrier.Received(api.Key{}, f)
	sameResult(t, "Received by another key", l, e, nil, api.OK)
	sameList(t, "Received by another key: skipped", skipped, []api.Span{{To: 32}})
}

// TestReceivedInside has a frame whose payload and seal would go on: a frame that is received is not searched again, and one that is skipped is.
func TestReceivedInside(t *testing.T) {
	r := rand.New(rand.NewSource(5))
	for range 200 {
		key := randomKey(r)
		inner := framed(key, randomTelegram(r))
		outer := carrier.Telegram{Station: 1, Payload: api.Block(inner[:16])}
		f := framed(key, outer)
		s := slices.Concat(f, inner[16:])
		l, skipped, e := carrier.Received(key, s)
		sameResult(t, "Received of a frame with the beginning of another", l, e, []carrier.Telegram{outer}, api.OK)
		sameList(t, "Received of a frame with the beginning of another: skipped", skipped, []api.Span{{From: 32, To: 48}})
		s = slices.Concat(f[:22], inner)
		l, skipped, _ = carrier.Received(key, s)
		sameList(t, "Received of a frame that is cut off", l, []carrier.Telegram{value(carrier.Decode(key, [carrier.Size]byte(inner)))})
		sameList(t, "Received of a frame that is cut off: skipped", skipped, []api.Span{{To: 22}})
	}
}

func TestReceivedOfLong(t *testing.T) {
	key := api.Key{5}
	x := carrier.Telegram{Station: 2}
	s := slices.Repeat(framed(key, x), 512)
	l, skipped, e := carrier.Received(key, s)
	sameResult(t, "Received of the longest", l, e, repeated(x, 512), api.OK)
	sameList(t, "Received of the longest: skipped", skipped, nil)
	l, skipped, e = carrier.Received(key, append(s, 0))
	sameResult(t, "Received of too much", l, e, nil, api.ErrLong)
	sameList(t, "Received of too much: skipped", skipped, nil)
}

// counted returns telegrams of the station 4 with some counters, between those of others.
func counted(counters ...int) []carrier.Telegram {
	out := []carrier.Telegram{{Station: 5, Counter: 100}}
	for _, n := range counters {
		out = append(out, carrier.Telegram{Station: 4, Counter: n}, carrier.Telegram{Station: 5, Counter: 101})
	}
	return out
}

func TestLost(t *testing.T) {
	for _, x := range []struct {
		l       []carrier.Telegram
		station int
		want    []int
	}{
		{counted(65535, 1), 4, ints(0)}, {counted(65534, 2), 4, ints(65535, 0, 1)}, {counted(65535, 0), 4, nil},
		{counted(3, 4, 7), 4, ints(5, 6)}, {counted(3, 5, 8), 4, ints(4, 6, 7)}, {counted(7, 9, 65535, 1)[:5], 4, ints(8)},
		{counted(3), 4, nil}, {counted(9), 4, nil}, {nil, 4, nil}, {counted(3, 9), 6, nil}, {counted(3, 9), 0, nil}, {counted(3, 9), 65535, nil},
		{[]carrier.Telegram{{Counter: 3}, {Counter: 6}}, 0, ints(4, 5)},
		{[]carrier.Telegram{{Station: 65535, Counter: 3, Kind: 255}, {Station: 65535, Counter: 5}}, 65535, ints(4)},
	} {
		lost, e := carrier.Lost(x.l, x.station)
		sameResult(t, "Lost", lost, e, x.want, api.OK)
	}
}

func TestLostOfMany(t *testing.T) {
	lost, e := carrier.Lost(counted(0, 257), 4)
	same(t, "Lost of 256: error", e, api.OK)
	same(t, "Lost of 256", len(lost), 256)
	for i, n := range lost {
		same(t, "Lost of 256: counter", n, i+1)
	}
	lost, e = carrier.Lost(counted(0, 129, 258), 4)
	same(t, "Lost of 256 at two places: error", e, api.OK)
	same(t, "Lost of 256 at two places", len(lost), 256)
	for _, l := range [][]carrier.Telegram{counted(0, 258), counted(7, 7), counted(0, 0), counted(65535, 65535), counted(1, 0), counted(0, 129, 259), counted(0, 300, 301), counted(0, 257, 259)} {
		lost, e = carrier.Lost(l, 4)
		sameResult(t, "Lost of too many", lost, e, nil, api.ErrMany)
	}
	lost, e = carrier.Lost(make([]carrier.Telegram, 512), 4)
	sameResult(t, "Lost of the most telegrams", lost, e, nil, api.OK)
}

func TestLostWithErrors(t *testing.T) {
	for _, x := range wrongTelegrams {
		lost, e := carrier.Lost([]carrier.Telegram{{Station: 4}, {Station: 4, Counter: 2}, x}, 4)
		sameResult(t, "Lost with a wrong telegram", lost, e, nil, api.ErrRange)
	}
	for _, station := range []int{-1, 65536, math.MinInt, math.MaxInt} {
		lost, e := carrier.Lost(counted(3, 9), station)
		sameResult(t, "Lost of a wrong station", lost, e, nil, api.ErrRange)
	}
	lost, e := carrier.Lost(make([]carrier.Telegram, 513), 4)
	sameResult(t, "Lost of too many telegrams", lost, e, nil, api.ErrMany)
	lost, e = carrier.Lost(repeated(carrier.Telegram{Kind: 256}, 513), -1)
	sameResult(t, "Lost of too many telegrams that are wrong", lost, e, nil, api.ErrMany)
	lost, e = carrier.Lost(counted(7, 7), 65536)
	sameResult(t, "Lost of too many of a wrong station", lost, e, nil, api.ErrRange)
}
