package carrier_test

import (
	"math"
	"math/rand"
	"slices"
	"testing"

	"kilovar/api"
	"kilovar/carrier"
)

// same compares a result with the expected one.
func same[T comparable](t *testing.T, what string, got, want T) {
	t.Helper()
	if got != want {
		t.Errorf("%s: got %v, want %v", what, got, want)
	}
}

// sameList compares lists; nil and empty ones are equal.
func sameList[T comparable](t *testing.T, what string, got, want []T) {
	t.Helper()
	if !slices.Equal(got, want) {
		t.Errorf("%s: got %v, want %v", what, got, want)
	}
}

// sameResult compares a list and an error.
func sameResult[T comparable](t *testing.T, what string, got []T, e api.Errno, want []T, wanted api.Errno) {
	t.Helper()
	sameList(t, what, got, want)
	same(t, what+": error", e, wanted)
}

// value returns a result whose error another test examines.
func value[T any](x T, _ api.Errno) T { return x }

func floats(l ...float32) []float32 { return l }

func ints(l ...int) []int { return l }

// samplesOf returns the samples with some integers.
func samplesOf(l ...int) []float32 {
	var out []float32
	for _, n := range l {
		out = append(out, float32(n)/16)
	}
	return out
}

func repeated[T any](x T, n int) []T {
	return slices.Repeat([]T{x}, n)
}

// randomSamples returns n samples of the whole range.
func randomSamples(r *rand.Rand, n int) []float32 {
	var out []float32
	for range n {
		out = append(out, float32(r.Intn(32769)-16384)/16)
	}
	return out
}

func randomBytes(r *rand.Rand, n int) []byte {
	out := make([]byte, n)
	for i := range out {
		out[i] = byte(r.Intn(256))
	}
	return out
}

func randomKey(r *rand.Rand) api.Key {
	return api.Key(randomBytes(r, 8))
}

func randomTelegram(r *rand.Rand) carrier.Telegram {
	return carrier.Telegram{Station: r.Intn(65536), Counter: r.Intn(65536), Kind: r.Intn(256), Payload: api.Block(randomBytes(r, 16))}
}

var (
	nan      = float32(math.NaN())
	infinite = float32(math.Inf(1))
	minus0   = float32(math.Copysign(0, -1))
)
