package inst

import "whetstone/word"

// Where a word's registers begin.
const (
	atRd  = 7
	atRs1 = 15
	atRs2 = 20
)

// registers tells which ones a form has.
type registers struct{ rd, rs1, rs2 bool }

func has(form byte) registers {
	switch form {
	case 'U', 'J':
		return registers{rd: true}
	case 'I', 'H':
		return registers{rd: true, rs1: true}
	case 'B', 'S':
		return registers{rs1: true, rs2: true}
	case 'R':
		return registers{rd: true, rs1: true, rs2: true}
	}
	return registers{}
}

// fits tells whether r may stand for a register that is there, or is not.
func fits(r int, there bool) bool {
	if !there {
		return r == 0
	}
	return r >= 0 && r <= 31
}

// numbers are those from the least to the greatest one that a step divides.
type numbers struct{ least, greatest, step int }

func (s numbers) holds(n int) bool {
	return n >= s.least && n <= s.greatest && n%s.step == 0
}

// span are the numbers that a form can tell; 0 alone, if it has none.
func span(form byte) numbers {
	switch form {
	case 'I', 'S':
		return numbers{-1 << 11, 1<<11 - 1, 1}
	case 'H':
		return numbers{0, 31, 1}
	case 'U':
		return numbers{0, 1<<20 - 1, 1}
	case 'B':
		return numbers{-1 << 12, 1<<12 - 2, 2}
	case 'J':
		return numbers{-1 << 20, 1<<20 - 2, 2}
	}
	return numbers{0, 0, 1}
}

// piece are n bits, from the bit at of a word on, that are the number's from the bit to on.
type piece struct{ at, n, to int }

// pieces is an array, not a list, so that none is made anew for each word; a
// form of fewer pieces has empty ones behind them.
func pieces(form byte) [4]piece {
	switch form {
	case 'I':
		return [4]piece{{20, 12, 0}}
	case 'S':
		return [4]piece{{7, 5, 0}, {25, 7, 5}}
	case 'H':
		return [4]piece{{20, 5, 0}}
	case 'U':
		return [4]piece{{12, 20, 0}}
	case 'B':
		return [4]piece{{31, 1, 12}, {7, 1, 11}, {25, 6, 5}, {8, 4, 1}}
	case 'J':
		return [4]piece{{31, 1, 20}, {12, 8, 12}, {20, 1, 11}, {21, 10, 1}}
	}
	return [4]piece{}
}

// signedBits is how many bits a form's number has with its sign; 0, if it has no sign.
func signedBits(form byte) int {
	switch form {
	case 'I', 'S':
		return 12
	case 'B':
		return 13
	case 'J':
		return 21
	}
	return 0
}

// number is what a word's pieces tell.
func number(w uint32, form byte) int {
	v := uint32(0)
	for _, p := range pieces(form) {
		v = word.Put(v, p.to, p.n, word.Field(w, p.at, p.n))
	}
	return int(int32(word.Sign(v, signedBits(form))))
}

// withNumber is a word with a number's bits in its pieces.
func withNumber(w uint32, form byte, n int) uint32 {
	for _, p := range pieces(form) {
		w = word.Put(w, p.at, p.n, word.Field(uint32(n), p.to, p.n))
	}
	return w
}
