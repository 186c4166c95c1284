package word

import (
	"math"
	"math/big"
	"testing"

	"whetstone/api"
)

func unsignedBig(w uint32) *big.Int { return new(big.Int).SetUint64(uint64(w)) }

func signedBig(w uint32) *big.Int {
	v := unsignedBig(w)
	if w>>31 == 1 {
		v.Sub(v, new(big.Int).Lsh(big.NewInt(1), 32))
	}
	return v
}

// wordOf is a whole number modulo 2^32.
func wordOf(v *big.Int) uint32 {
	return uint32(new(big.Int).And(v, unsignedBig(0xffffffff)).Uint64())
}

func less(a, b *big.Int) uint32 {
	if a.Cmp(b) < 0 {
		return 1
	}
	return 0
}

// bitwise makes a word from a rule on bits.
func bitwise(a, b uint32, rule func(x, y uint32) bool) uint32 {
	w := uint32(0)
	for k := range 32 {
		if rule(bit(a, k), bit(b, k)) {
			w += 1 << k
		}
	}
	return w
}

func divided(a, b *big.Int) (uint32, uint32) {
	if b.Sign() == 0 {
		return 0xffffffff, wordOf(a)
	}
	q, r := new(big.Int).QuoRem(a, b, new(big.Int))
	return wordOf(q), wordOf(r)
}

// reckoned is the table of P1.2, in whole numbers without a bound; false: none of its kinds.
func reckoned(op int, a, b uint32) (uint32, bool) {
	ua, ub, sa, sb := unsignedBig(a), unsignedBig(b), signedBig(a), signedBig(b)
	by := uint(b % 32)
	z := new(big.Int)
	switch op {
	case api.Add:
		return wordOf(z.Add(ua, ub)), true
	case api.Sub:
		return wordOf(z.Sub(ua, ub)), true
	case api.Mul:
		return wordOf(z.Mul(ua, ub)), true
	case api.And:
		return bitwise(a, b, func(x, y uint32) bool { return x+y == 2 }), true
	case api.Or:
		return bitwise(a, b, func(x, y uint32) bool { return x+y >= 1 }), true
	case api.Xor:
		return bitwise(a, b, func(x, y uint32) bool { return x+y == 1 }), true
	case api.Sll:
		return wordOf(z.Lsh(ua, by)), true
	case api.Srl:
		return wordOf(z.Rsh(ua, by)), true
	case api.Sra:
		return wordOf(z.Rsh(sa, by)), true
	case api.Slt:
		return less(sa, sb), true
	case api.Sltu:
		return less(ua, ub), true
	case api.Mulh:
		return wordOf(z.Rsh(z.Mul(sa, sb), 32)), true
	case api.Mulhu:
		return wordOf(z.Rsh(z.Mul(ua, ub), 32)), true
	case api.Mulhsu:
		return wordOf(z.Rsh(z.Mul(sa, ub), 32)), true
	case api.Div:
		q, _ := divided(sa, sb)
		return q, true
	case api.Rem:
		_, r := divided(sa, sb)
		return r, true
	case api.Divu:
		q, _ := divided(ua, ub)
		return q, true
	case api.Remu:
		_, r := divided(ua, ub)
		return r, true
	}
	return 0, false
}

// P1.2

func TestDoIsItsTable(t *testing.T) {
	kinds := 0
	for op := range api.Ops {
		if _, ok := reckoned(op, 0, 0); !ok {
			continue
		}
		kinds++
		for _, a := range sampleWords() {
			for _, b := range sampleWords() {
				want, _ := reckoned(op, a, b)
				if v, e := Do(op, a, b); v != want || e != api.OK {
					t.Fatalf("Do(%d, %#x, %#x): %#x, %d, not %#x", op, a, b, v, e, want)
				}
			}
		}
	}
	if kinds != 18 {
		t.Errorf("%d kinds", kinds)
	}
}

func TestDoByHand(t *testing.T) {
	for _, x := range []struct {
		op         int
		a, b, want uint32
	}{
		{api.Add, ones, 1, 0},
		{api.Sub, 0, 1, ones},
		{api.Mul, 0x10001, 0x10001, 0x20001},
		{api.And, 12, 10, 8},
		{api.Or, 12, 10, 14},
		{api.Xor, 12, 10, 6},
		{api.Sll, 3, 31, least},
		{api.Sll, 3, 32, 3},
		{api.Sll, 3, 33, 6},
		{api.Sll, 3, ones, least},
		{api.Srl, least, 31, 1},
		{api.Srl, least, 32, least},
		{api.Srl, least, 0xffffffe1, 0x40000000},
		{api.Sra, least, 31, ones},
		{api.Sra, least, 32, least},
		{api.Sra, least, 33, 0xc0000000},
		{api.Sra, most, 30, 1},
		{api.Slt, least, most, 1},
		{api.Slt, most, least, 0},
		{api.Slt, ones, ones, 0},
		{api.Sltu, least, most, 0},
		{api.Sltu, most, least, 1},
		{api.Sltu, ones, ones, 0},
		{api.Mulh, least, least, 0x40000000},
		{api.Mulh, ones, ones, 0},
		{api.Mulh, ones, 1, ones},
		{api.Mulh, 1, ones, ones},
		{api.Mulh, most, most, 0x3fffffff},
		{api.Mulhu, ones, ones, 0xfffffffe},
		{api.Mulhu, least, least, 0x40000000},
		{api.Mulhsu, ones, ones, ones},
		{api.Mulhsu, least, ones, 0x80000000},
		{api.Mulhsu, 1, ones, 0},
		{api.Mulhsu, most, ones, 0x7ffffffe},
		{api.Div, 7, 0, ones},
		{api.Div, least, ones, least},
		{api.Div, 0xfffffff9, 2, 0xfffffffd},
		{api.Div, 7, 0xfffffffe, 0xfffffffd},
		{api.Div, 0xfffffff9, 0xfffffffe, 3},
		{api.Rem, 7, 0, 7},
		{api.Rem, least, ones, 0},
		{api.Rem, 0xfffffff9, 2, ones},
		{api.Rem, 7, 0xfffffffe, 1},
		{api.Rem, 0xfffffff9, 0xfffffffe, ones},
		{api.Divu, 7, 0, ones},
		{api.Divu, least, ones, 0},
		{api.Divu, ones, 2, most},
		{api.Remu, 7, 0, 7},
		{api.Remu, least, ones, least},
		{api.Remu, ones, 2, 1},
	} {
		if v, e := Do(x.op, x.a, x.b); v != x.want || e != api.OK {
			t.Errorf("Do(%d, %#x, %#x): %#x, %d, not %#x", x.op, x.a, x.b, v, e, x.want)
		}
	}
}

func TestDoOfOtherKinds(t *testing.T) {
	l := []int{math.MinInt, math.MinInt32, math.MaxInt32, math.MaxInt}
	for op := -300; op < api.Ops+300; op++ {
		if _, ok := reckoned(op, 0, 0); !ok {
			l = append(l, op)
		}
	}
	for op := range api.Ops {
		l = append(l, op+1<<16, op+1<<32, op-1<<32)
	}
	for _, op := range l {
		for _, a := range []uint32{0, 1, least, ones} {
			if v, e := Do(op, a, 3); v != 0 || e != api.ErrArg {
				t.Fatalf("Do(%d, %#x, 3): %#x, %d", op, a, v, e)
			}
		}
	}
}
