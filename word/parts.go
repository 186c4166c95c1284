package word

// ones is what a division by 0 comes to.
const ones = 0xffffffff

// within tells whether the n bits from the bit at on are bits of a word.
func within(at, n int) bool {
	// Each bound stands ahead of the sum, so that the sum can't wrap round.
	return at >= 0 && at <= 31 && n >= 1 && n <= 32 && at+n <= 32
}

// mask is the word whose lowest n bits are 1, and no other ones.
func mask(n int) uint32 {
	m := uint32(0)
	for range n {
		m = m<<1 | 1
	}
	return m
}

// shift is by how many bits a shift by b goes.
func shift(b uint32) uint32 { return b & 31 }

// one is a comparison's answer as a word.
func one(holds bool) uint32 {
	if holds {
		return 1
	}
	return 0
}

func signed(w uint32) int64 { return int64(int32(w)) }

// high is the higher half of a product that has a sign.
func high(p int64) uint32 { return uint32(p >> 32) }

// quotient and rest divide in 64 bits, where the least word by -1 is a number
// like others: cut to a word again it is the least one.
func quotient(a, b uint32) uint32 {
	if b == 0 {
		return ones
	}
	return uint32(signed(a) / signed(b))
}

func rest(a, b uint32) uint32 {
	if b == 0 {
		return a
	}
	return uint32(signed(a) % signed(b))
}

func quotientUnsigned(a, b uint32) uint32 {
	if b == 0 {
		return ones
	}
	return a / b
}

func restUnsigned(a, b uint32) uint32 {
	if b == 0 {
		return a
	}
	return a % b
}
