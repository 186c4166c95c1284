package live

import (
	"math/rand"
	"strings"

	"whetstone/api"
	"whetstone/blocks"
	"whetstone/inst"
)

// A second reading of the chapter: what a kind has is told by letters; and a
// register counts at an address if there is a way from there, instruction by
// instruction, to one that needs it, on which none sets it. So no more
// registers count than those of the least answer.

const every = 0xfffffffe

// letters tell of each kind: d, a, b: it has Rd, Rs1, Rs2; * it needs all; ?
// it asks the outside; ! whatever goes on behind it may need all; f, t: it goes
// on at the next address, or at the one that its number tells.
func letters() map[int]string {
	m := map[int]string{api.Jalr: "da*!", api.Ecall: "?f", api.Ebreak: "*!"}
	put := func(s string, ops ...int) {
		for _, op := range ops {
			m[op] = s
		}
	}
	put("df", api.Lui, api.Auipc)
	put("dt", api.Jal)
	put("abft", api.Beq, api.Bne, api.Blt, api.Bge, api.Bltu, api.Bgeu)
	put("daf", api.Lb, api.Lh, api.Lw, api.Lbu, api.Lhu)
	put("abf", api.Sb, api.Sh, api.Sw)
	put("daf", api.Addi, api.Slti, api.Sltiu, api.Xori, api.Ori, api.Andi, api.Slli, api.Srli, api.Srai)
	put("dabf", api.Add, api.Sub, api.Sll, api.Slt, api.Sltu, api.Xor, api.Srl, api.Sra, api.Or, api.And)
	put("dabf", api.Mul, api.Mulh, api.Mulhsu, api.Mulhu, api.Div, api.Divu, api.Rem, api.Remu)
	return m
}

var allLetters = letters()

func has(x api.Inst, letter rune) bool {
	return strings.ContainsRune(allLetters[x.Op], letter)
}

// needs and sets tell of a right instruction and one register.
func needs(x api.Inst, r int) bool {
	switch {
	case r == 0:
		return false
	case has(x, '*'):
		return true
	case has(x, '?'):
		return r >= 10 && r <= 17
	}
	return has(x, 'a') && x.Rs1 == r || has(x, 'b') && x.Rs2 == r
}

func sets(x api.Inst, r int) bool {
	return r != 0 && (has(x, 'd') && x.Rd == r || has(x, '?') && r == 10)
}

// gathered is the word of the registers of which f holds.
func gathered(f func(r int) bool) uint32 {
	w := uint32(0)
	for r := range 32 {
		if f(r) {
			w += 1 << r
		}
	}
	return w
}

// stands is the instruction at an address of a text.
func stands(i api.Image, at uint32) api.Inst {
	x, e := inst.Decode(i.Words[(at-i.Base)/4])
	if e != api.OK {
		panic(at)
	}
	return x
}

// behindIt tells whether a register counts behind the instruction at an
// address; gone are the addresses that were gone through for it.
func behindIt(i api.Image, at uint32, r int, gone map[uint32]bool) bool {
	x := stands(i, at)
	if has(x, '!') || x.Op == api.Jal && x.Rd != 0 {
		return r != 0
	}
	return has(x, 'f') && aheadOf(i, at+4, r, gone) || has(x, 't') && aheadOf(i, at+uint32(x.Imm), r, gone)
}

func aheadOf(i api.Image, at uint32, r int, gone map[uint32]bool) bool {
	x := stands(i, at)
	if gone[at] {
		return false
	}
	gone[at] = true
	return needs(x, r) || !sets(x, r) && behindIt(i, at, r, gone)
}

func modelFind(i api.Image, l []api.Block) ([]uint32, []uint32) {
	var ahead, behind []uint32
	for _, b := range l {
		ahead = append(ahead, gathered(func(r int) bool { return aheadOf(i, b.At, r, map[uint32]bool{}) }))
		last := b.At + 4*uint32(b.N-1)
		behind = append(behind, gathered(func(r int) bool { return behindIt(i, last, r, map[uint32]bool{}) }))
	}
	return ahead, behind
}

func modelBack(l []api.Inst, behind uint32) uint32 {
	return gathered(func(r int) bool {
		for _, x := range l {
			if needs(x, r) {
				return true
			}
			if sets(x, r) {
				return false
			}
		}
		return r != 0 && behind>>r&1 == 1
	})
}

// chanceInst is a right instruction that is no jump, of few registers, so that
// they meet.
func chanceInst(r *rand.Rand) api.Inst {
	reg := func() int { return []int{0, 1, 2, 3, 5, 10, 11, 17, 31}[r.Intn(9)] }
	x := api.Inst{Op: r.Intn(api.Ops)}
	s := allLetters[x.Op]
	for _, c := range s {
		switch c {
		case 'd':
			x.Rd = reg()
		case 'a':
			x.Rs1 = reg()
		case 'b':
			x.Rs2 = reg()
		case 't', '!':
			return chanceInst(r)
		}
	}
	if s != "dabf" && s != "?f" {
		x.Imm = r.Intn(32)
	}
	if !inst.Right(x) {
		panic(x)
	}
	return x
}

// chanceAt is an instruction for the place k of n; few of them make all
// registers count.
func chanceAt(r *rand.Rand, k, n int) api.Inst {
	there := 4 * (r.Intn(n) - k)
	switch r.Intn(32) {
	case 0:
		return api.Inst{Op: api.Jal, Rd: r.Intn(3), Imm: there}
	case 1:
		return api.Inst{Op: api.Jalr, Rd: r.Intn(2), Rs1: r.Intn(32)}
	case 2:
		return api.Inst{Op: api.Ebreak}
	case 3, 4, 5, 6:
		return api.Inst{Op: api.Jal, Imm: there}
	case 7, 8, 9, 10, 11, 12, 13, 14:
		x := chanceInst(r)
		return api.Inst{Op: api.Beq + r.Intn(6), Rs1: x.Rs1, Rs2: x.Rs2, Imm: there}
	}
	return chanceInst(r)
}

// chance is a text with blocks: the last word goes back, or stops.
func chance(r *rand.Rand) (api.Image, []api.Block) {
	n := 1 + r.Intn(20)
	base := []uint32{0, 0x1000, 1<<31 - 8, -uint32(4 * n), -uint32(4*n + 8)}[r.Intn(5)]
	i := api.Image{Base: base, Entry: base + 4*uint32(r.Intn(n)), Seg: r.Intn(3)}
	for k := range n - 1 {
		i.Words = append(i.Words, word(chanceAt(r, k, n)))
	}
	end := api.Inst{Op: api.Jal, Imm: -4 * r.Intn(n)}
	if r.Intn(4) == 0 {
		end = api.Inst{Op: api.Ebreak}
	}
	i.Words = append(i.Words, word(end))
	var entries []uint32
	for r.Intn(2) == 0 {
		entries = append(entries, base+4*uint32(r.Intn(n)))
	}
	l, e := blocks.Find(i, entries)
	if e != api.OK {
		panic(e)
	}
	return i, l
}
