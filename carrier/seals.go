package carrier

import "kilovar/api"

// pairs has the two bits, as a number, of each phase, and so the phase of each two bits: neighbouring phases differ in one bit.
var pairs = [4]int{0, 1, 3, 2}

func checkBits(bits []int) api.Errno {
	return checkList(bits, 8*MaxBytes, func(b int) api.Errno { return within(b, 0, 1) })
}

// Bits returns the bits of bytes.
func Bits(s []byte) ([]int, api.Errno) {
	if len(s) > MaxBytes {
		return nil, api.ErrMany
	}
	var out []int
	for _, b := range s {
		for n := range 8 {
			out = append(out, int(b>>(7-n)&1))
		}
	}
	return out, api.OK
}

// Bytes returns the bytes with some bits.
func Bytes(bits []int) ([]byte, api.Errno) {
	if e := first(checkBits(bits), failIf(len(bits)%8 != 0, api.ErrShape)); e != api.OK {
		return nil, e
	}
	out := make([]byte, len(bits)/8)
	for i, b := range bits {
		out[i/8] = 2*out[i/8] + byte(b)
	}
	return out, api.OK
}

// Phases returns the phases of bits.
func Phases(bits []int) ([]int, api.Errno) {
	if e := first(checkBits(bits), failIf(len(bits)%2 != 0, api.ErrShape), failIf(len(bits) > 2*MaxPhases, api.ErrMany)); e != api.OK {
		return nil, e
	}
	out := make([]int, len(bits)/2)
	for i := range out {
		out[i] = pairs[2*bits[2*i]+bits[2*i+1]]
	}
	return out, api.OK
}

// Unphased returns the bits with some phases.
func Unphased(phases []int) ([]int, api.Errno) {
	if e := checkPhases(phases); e != api.OK {
		return nil, e
	}
	var out []int
	for _, p := range phases {
		out = append(out, pairs[p]/2, pairs[p]%2)
	}
	return out, api.OK
}

// Distance returns the number of bits in which bytes differ.
func Distance(a, b []byte) (int, api.Errno) {
	e := first(failIf(len(a) > MaxBytes, api.ErrMany), failIf(len(b) > MaxBytes, api.ErrMany), failIf(len(a) != len(b), api.ErrShape))
	if e != api.OK {
		return 0, e
	}
	sum := 0
	for i, x := range a {
		for d := x ^ b[i]; d != 0; d &= d - 1 { // each step clears the lowest bit that is set
			sum++
		}
	}
	return sum, api.OK
}

// Seal returns the seal of bytes by a key.
func Seal(key api.Key, s []byte) (api.Key, api.Errno) {
	if len(s) > api.MaxStream {
		return api.Key{}, api.ErrLong
	}
	return sealOf(key, s), api.OK
}

// sealOf returns the seal of bytes by a key; the wraparound of a byte is the remainder by 256.
func sealOf(key api.Key, s []byte) api.Key {
	for j, x := range key {
		for _, b := range s {
			x = byte(2*j+3)*x + b + byte(j)
		}
		key[j] = x
	}
	return key
}

// Chain returns the chain of blocks by a key.
func Chain(key api.Key, l []api.Block) ([]api.Key, api.Errno) {
	if len(l) > api.MaxList {
		return nil, api.ErrMany
	}
	return chainOf(key, l), api.OK
}

func chainOf(key api.Key, l []api.Block) []api.Key {
	return mapped(l, func(b api.Block) api.Key {
		key = sealOf(key, b[:])
		return key
	})
}

// CheckChain returns OK if seals are a chain, or the index of the first one that is wrong.
func CheckChain(key api.Key, l []api.Block, seals []api.Key) (int, api.Errno) {
	e := first(failIf(len(l) > api.MaxList, api.ErrMany), failIf(len(seals) > api.MaxList, api.ErrMany), failIf(len(l) != len(seals), api.ErrShape))
	if e != api.OK {
		return 0, e
	}
	for i, seal := range chainOf(key, l) {
		if seal != seals[i] {
			return i, api.ErrCheck
		}
	}
	return 0, api.OK
}
