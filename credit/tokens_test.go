package credit_test

import (
	"math"
	"math/rand"
	"testing"

	"kilovar/api"
	"kilovar/carrier"
	"kilovar/credit"
)

// P8.2

func TestMade(t *testing.T) {
	for _, x := range []struct {
		key            api.Key
		number, amount int
		bytes          []byte
	}{
		{k(), 7, 1000, []byte{0, 0, 0, 7, 0, 0, 3, 232}}, {api.Key{}, 7, 1000, []byte{0, 0, 0, 7, 0, 0, 3, 232}}, {k(), 1, 1, []byte{0, 0, 0, 1, 0, 0, 0, 1}},
		{other(), 999999999, 100000000, []byte{59, 154, 201, 255, 5, 245, 225, 0}}, {k(), 16909060, 84281096, []byte{1, 2, 3, 4, 5, 6, 7, 8}},
	} {
		token, e := credit.Made(x.key, x.number, x.amount)
		seal := value(carrier.Seal(x.key, x.bytes))
		same(t, "Made", all(token, e), all(credit.Token{Number: x.number, Amount: x.amount, Seal: seal}, api.OK))
		b, e := credit.Packed(token)
		same(t, "Packed", all(b[:8], b[8:], e), all(x.bytes, seal, api.OK))
		back, e := credit.Unpacked(b)
		same(t, "Unpacked", all(back, e), all(token, api.OK))
	}
	same(t, "the seal by the key of zeros", value(credit.Made(api.Key{}, 7, 1000)).Seal[0], 40) // 3 * (3 * (3 * (3 * 7))) + 3 * 3 + 232 = 808
}

func TestMadeOfWrongNumbers(t *testing.T) {
	for _, x := range [][2]int{{0, 1}, {-1, 1}, {1000000000, 1}, {1, 0}, {1, -1}, {1, 100000001}, {0, 0}, {math.MinInt, math.MaxInt}, {math.MaxInt, math.MinInt}, {1 + 1<<32, 1}, {1, 1 + 1<<32}} {
		token, e := credit.Made(k(), x[0], x[1])
		same(t, "Made", all(x, token, e), all(x, credit.Token{}, api.ErrRange))
		b, e := credit.Packed(credit.Token{Number: x[0], Amount: x[1], Seal: k()})
		same(t, "Packed", all(x, b, e), all(x, api.Block{}, api.ErrRange))
	}
}

func TestUnpacked(t *testing.T) {
	for _, x := range []struct {
		b     api.Block
		token credit.Token
		e     api.Errno
	}{
		{api.Block{0, 0, 0, 7, 0, 0, 3, 232, 1, 2, 3, 4, 5, 6, 7, 8}, credit.Token{Number: 7, Amount: 1000, Seal: k()}, api.OK}, // valid or not
		{api.Block{59, 154, 201, 255, 5, 245, 225, 0}, credit.Token{Number: 999999999, Amount: 100000000}, api.OK}, {api.Block{0, 0, 0, 1, 0, 0, 0, 1, 15: 255}, credit.Token{Number: 1, Amount: 1, Seal: api.Key{7: 255}}, api.OK},
		{api.Block{}, credit.Token{}, api.ErrRange}, {api.Block{0, 0, 0, 0, 0, 0, 0, 1}, credit.Token{}, api.ErrRange}, {api.Block{0, 0, 0, 1}, credit.Token{}, api.ErrRange}, {api.Block{59, 154, 202, 0, 0, 0, 0, 1}, credit.Token{}, api.ErrRange}, {api.Block{0, 0, 0, 1, 5, 245, 225, 1}, credit.Token{}, api.ErrRange},
		{api.Block{255, 255, 255, 255, 255, 255, 255, 255}, credit.Token{}, api.ErrRange}, {api.Block{128, 0, 0, 1, 0, 0, 0, 1}, credit.Token{}, api.ErrRange}, {api.Block{0, 0, 0, 1, 128, 0, 0, 1}, credit.Token{}, api.ErrRange}, {api.Block{15: 255}, credit.Token{}, api.ErrRange},
	} {
		token, e := credit.Unpacked(x.b)
		same(t, "Unpacked", all(x.b, token, e), all(x.b, x.token, x.e))
	}
}

func TestTokensComeBack(t *testing.T) {
	r := rand.New(rand.NewSource(3))
	for range 2000 {
		x := credit.Token{Number: pick(r, 1, 255, 256, 1+r.Intn(999999999)), Amount: pick(r, 1, 255, 256, 1+r.Intn(100000000)), Seal: randomKey(r)}
		b, e := credit.Packed(x)
		same(t, "Packed: error", e, api.OK)
		back, e := credit.Unpacked(b)
		same(t, "Unpacked", all(back, e), all(x, api.OK))
		again, e := credit.Packed(back)
		same(t, "Packed", all(again, e), all(b, api.OK))
	}
}
