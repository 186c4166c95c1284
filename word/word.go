// Package word is layer 1: words of 32 bits: see shared/doc/01-word.md.
package word

import "whetstone/api"

// Field are so many bits from one on; Sign is a number of so many bits, as one of 32 with its sign; Put puts bits in.
func Field(w uint32, at, n int) uint32 {
	if !within(at, n) {
		return 0
	}
	return (w >> at) & mask(n)
}

func Sign(w uint32, n int) uint32 {
	if n < 1 || n > 31 {
		return w
	}
	if Field(w, n-1, 1) == 1 {
		return w | ^mask(n)
	}
	return w & mask(n)
}

func Put(w uint32, at, n int, v uint32) uint32 {
	if !within(at, n) {
		return w
	}
	m := mask(n)
	return w&^(m<<at) | (v&m)<<at
}

// Do does an instruction's reckoning on two words.
func Do(op int, a, b uint32) (uint32, api.Errno) {
	switch op {
	case api.Add:
		return a + b, api.OK
	case api.Sub:
		return a - b, api.OK
	case api.And:
		return a & b, api.OK
	case api.Or:
		return a | b, api.OK
	case api.Xor:
		return a ^ b, api.OK
	case api.Sll:
		return a << shift(b), api.OK
	case api.Srl:
		return a >> shift(b), api.OK
	case api.Sra:
		return uint32(int32(a) >> shift(b)), api.OK
	case api.Slt:
		return one(int32(a) < int32(b)), api.OK
	case api.Sltu:
		return one(a < b), api.OK
	case api.Mul:
		return a * b, api.OK
	case api.Mulh:
		return high(signed(a) * signed(b)), api.OK
	case api.Mulhsu:
		return high(signed(a) * int64(b)), api.OK
	case api.Mulhu:
		return uint32((uint64(a) * uint64(b)) >> 32), api.OK
	case api.Div:
		return quotient(a, b), api.OK
	case api.Divu:
		return quotientUnsigned(a, b), api.OK
	case api.Rem:
		return rest(a, b), api.OK
	case api.Remu:
		return restUnsigned(a, b), api.OK
	}
	return 0, api.ErrArg
}
