package carrier

import (
	"bytes"
	"math"

	"kilovar/api"
)

// magic is what each stream begins with.
const magic = "KVAR"

// Pack returns the stream of samples.
func Pack(l []float32) ([]byte, api.Errno) {
	if e := CheckSamples(l); e != api.OK {
		return nil, e
	}
	s := withNumber([]byte(magic), uint32(len(l)))
	for _, x := range l {
		s = withNumber(s, math.Float32bits(sample(integer(x)))) // by way of its integer -0 becomes 0
	}
	return sealed(s), api.OK
}

// withNumber returns bytes with those of a number behind them, the highest one first.
func withNumber(s []byte, n uint32) []byte {
	return append(s, byte(n>>24), byte(n>>16), byte(n>>8), byte(n))
}

// numberAt returns the number that the first four bytes are.
func numberAt(s []byte) uint32 {
	return uint32(s[0])<<24 | uint32(s[1])<<16 | uint32(s[2])<<8 | uint32(s[3])
}

// sealed returns a copy of bytes with their seal behind them.
func sealed(s []byte) []byte {
	seal := sealOf(api.Key{}, s)
	out := make([]byte, len(s)+len(seal))
	copy(out, s)
	copy(out[len(s):], seal[:])
	return out
}

// Unpack returns the samples with a stream.
func Unpack(s []byte) ([]float32, api.Errno) {
	n, e := countOf(s)
	if e != api.OK {
		return nil, e
	}
	behind := 8 + 4*n
	if e := checkEnd(s, behind); e != api.OK {
		return nil, e
	}
	l := make([]float32, n)
	for i := range l {
		l[i] = math.Float32frombits(numberAt(s[8+4*i:]))
	}
	if e := first(CheckSamples(l), checkEach(l, checkZero)); e != api.OK {
		return nil, e
	}
	return l, api.OK
}

// countOf returns the number of samples of a stream, or the first error of its beginning.
func countOf(s []byte) (int, api.Errno) {
	e := first(failIf(len(s) > api.MaxStream, api.ErrLong), failIf(len(s) < 4, api.ErrTorn), failIf(!bytes.HasPrefix(s, []byte(magic)), api.ErrForm), failIf(len(s) < 8, api.ErrTorn))
	if e != api.OK {
		return 0, e
	}
	n := numberAt(s[4:])
	if n > api.MaxSamples {
		return 0, api.ErrMany
	}
	return int(n), api.OK
}

// checkEnd returns the first error of the length of a stream and of its seal, which begins at an index, or OK.
func checkEnd(s []byte, at int) api.Errno {
	size := at + len(api.Key{})
	if e := first(failIf(len(s) < size, api.ErrTorn), failIf(len(s) > size, api.ErrShape)); e != api.OK {
		return e
	}
	return failIf(!bytes.Equal(sealed(s[:at]), s), api.ErrCheck)
}

// checkZero returns ErrForm for -0, or OK: two streams that differ must not have the same samples.
func checkZero(x float32) api.Errno {
	return failIf(x == 0 && math.Signbit(float64(x)), api.ErrForm)
}
