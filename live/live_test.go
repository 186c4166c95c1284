package live

import (
	"math"
	"math/rand"
	"slices"
	"testing"

	"whetstone/api"
	"whetstone/blocks"
	"whetstone/inst"
)

// word is a right instruction's word.
func word(x api.Inst) uint32 {
	w, e := inst.Encode(x)
	if e != api.OK {
		panic(x)
	}
	return w
}

// regs are registers as a word.
func regs(l ...int) uint32 {
	w := uint32(0)
	for _, r := range l {
		w |= 1 << r
	}
	return w
}

// Short forms of the instructions that the tests' texts are made of.
func addi(rd, rs1, n int) api.Inst  { return api.Inst{Op: api.Addi, Rd: rd, Rs1: rs1, Imm: n} }
func add(rd, rs1, rs2 int) api.Inst { return api.Inst{Op: api.Add, Rd: rd, Rs1: rs1, Rs2: rs2} }
func sw(rs1, rs2 int) api.Inst      { return api.Inst{Op: api.Sw, Rs1: rs1, Rs2: rs2} }
func lw(rd, rs1 int) api.Inst       { return api.Inst{Op: api.Lw, Rd: rd, Rs1: rs1} }
func jal(rd, n int) api.Inst        { return api.Inst{Op: api.Jal, Rd: rd, Imm: n} }
func jalr(rd, rs1 int) api.Inst     { return api.Inst{Op: api.Jalr, Rd: rd, Rs1: rs1} }
func ecall() api.Inst               { return api.Inst{Op: api.Ecall} }
func stop() api.Inst                { return api.Inst{Op: api.Ebreak} }
func b(at, n int) api.Block         { return api.Block{At: uint32(at), N: n} }
func bne(rs1, rs2, n int) api.Inst {
	return api.Inst{Op: api.Bne, Rs1: rs1, Rs2: rs2, Imm: n}
}

// from is a text from 0x1000 on that begins at its first word.
func from(l ...api.Inst) api.Image {
	i := api.Image{Base: 0x1000, Entry: 0x1000}
	for _, x := range l {
		i.Words = append(i.Words, word(x))
	}
	return i
}

// parted are a text's blocks.
func parted(t *testing.T, i api.Image, entries ...uint32) []api.Block {
	t.Helper()
	l, e := blocks.Find(i, entries)
	if e != api.OK {
		t.Fatal(e)
	}
	return l
}

// counts fails unless Find answers these words: each block's ahead, then each block's behind.
func counts(t *testing.T, name string, i api.Image, l []api.Block, want ...uint32) {
	t.Helper()
	ahead, behind, e := Find(i, l)
	n := len(want) / 2
	if e != api.OK || n != len(l) || !slices.Equal(ahead, want[:n]) || !slices.Equal(behind, want[n:]) {
		t.Errorf("%s, blocks %v: %x, %x, %v; not %x", name, l, ahead, behind, e, want)
	}
}

// refuses fails unless Find answers ErrArg, and nothing beside it.
func refuses(t *testing.T, name string, i api.Image, l ...api.Block) {
	t.Helper()
	if ahead, behind, e := Find(i, l); e != api.ErrArg || len(ahead) != 0 || len(behind) != 0 {
		t.Errorf("%s, blocks %v: %x, %x, %v", name, l, ahead, behind, e)
	}
}

// one fails unless Uses and Sets answer these.
func one(t *testing.T, x api.Inst, uses, sets uint32) {
	t.Helper()
	if u, s := Uses(x), Sets(x); u != uses || s != sets {
		t.Errorf("%+v: %x, %x; not %x, %x", x, u, s, uses, sets)
	}
}

// P9.1

func TestLettersTellEachKind(t *testing.T) {
	for op := range api.Ops {
		if allLetters[op] == "" {
			t.Errorf("no letters of the kind %d", op)
		}
	}
	if len(allLetters) != api.Ops {
		t.Error(len(allLetters))
	}
}

func TestOneOfEachKindAndRegister(t *testing.T) {
	some := []int{0, 1, 2, 9, 10, 11, 17, 18, 30, 31}
	n := map[int]int{}
	for op := range api.Ops {
		for rd := range 32 {
			for _, rs1 := range some {
				for _, rs2 := range some {
					for _, x := range []api.Inst{{Op: op, Rd: rd, Rs1: rs1, Rs2: rs2}, {Op: op, Rd: rs1, Rs1: rd, Rs2: rs2, Imm: 4}, {Op: op, Rd: rs1, Rs1: rs2, Rs2: rd, Imm: -8}} {
						if !inst.Right(x) {
							one(t, x, every, 0)
							continue
						}
						n[op]++
						one(t, x, gathered(func(r int) bool { return needs(x, r) }), gathered(func(r int) bool { return sets(x, r) }))
					}
				}
			}
		}
	}
	for op := range api.Ops {
		if n[op] == 0 {
			t.Errorf("no right instruction of the kind %d", op)
		}
	}
}

func TestOneOfEachForm(t *testing.T) {
	one(t, api.Inst{Op: api.Add, Rd: 1, Rs1: 2, Rs2: 3}, 12, 2)
	one(t, api.Inst{Op: api.Remu, Rd: 31, Rs1: 31, Rs2: 31}, 1<<31, 1<<31)
	one(t, api.Inst{Op: api.Srai, Rd: 4, Rs1: 5, Imm: 31}, 1<<5, 1<<4)
	one(t, api.Inst{Op: api.Lui, Rd: 31, Imm: 1<<20 - 1}, 0, 1<<31)
	one(t, api.Inst{Op: api.Auipc, Rd: 1, Imm: 7}, 0, 2)
	one(t, api.Inst{Op: api.Lhu, Rd: 5, Rs1: 6, Imm: -1}, 1<<6, 1<<5)
	one(t, api.Inst{Op: api.Sb, Rs1: 5, Rs2: 6, Imm: 2047}, 3<<5, 0)
	one(t, api.Inst{Op: api.Bgeu, Rs1: 5, Rs2: 5, Imm: -2}, 1<<5, 0)
	one(t, api.Inst{Op: api.Jal, Rd: 1, Imm: 8}, 0, 2)
	one(t, api.Inst{Op: api.Jal, Imm: 8}, 0, 0)
}

// The register 0 is none that counts, wherever it stands.
func TestOneOfRegisterZero(t *testing.T) {
	for op := range api.Ops {
		x := api.Inst{Op: op}
		switch op {
		case api.Ecall:
			one(t, x, 0x3fc00, 0x400)
		case api.Jalr, api.Ebreak:
			one(t, x, every, 0)
		default:
			one(t, x, 0, 0)
		}
	}
	one(t, add(0, 0, 9), 1<<9, 0)
	one(t, add(0, 9, 0), 1<<9, 0)
	one(t, add(9, 0, 0), 0, 1<<9)
	one(t, sw(0, 3), 8, 0)
	one(t, sw(3, 0), 8, 0)
	one(t, bne(0, 31, 8), 1<<31, 0)
	one(t, bne(31, 0, 8), 1<<31, 0)
}

func TestOneOfThoseThatNeedMore(t *testing.T) {
	one(t, ecall(), 0x3fc00, 0x400)
	one(t, stop(), every, 0)
	for r := range 32 {
		one(t, jalr(r, 0), every, regs(r)&every)
		one(t, jalr(0, r), every, 0)
		one(t, jalr(r, r), every, regs(r)&every)
	}
}

func TestOneOfWhatIsNotRight(t *testing.T) {
	l := []api.Inst{
		{Op: -1}, {Op: api.Ops}, {Op: api.Ops + 1}, {Op: math.MinInt}, {Op: math.MaxInt}, {Op: 1 << 32}, {Op: 1<<32 + api.Ecall}, {Op: -1, Rd: 5, Rs1: 6, Rs2: 7},
		{Op: api.Add, Rd: 32}, {Op: api.Add, Rd: -1}, {Op: api.Add, Rd: 1, Rs1: 32}, {Op: api.Add, Rs1: -1}, {Op: api.Add, Rs2: 32}, {Op: api.Add, Rs2: -1}, {Op: api.Add, Rd: 64 + 5},
		{Op: api.Add, Rd: math.MinInt}, {Op: api.Add, Rs1: math.MaxInt}, {Op: api.Add, Rs2: 1 << 32}, {Op: api.Add, Rd: 5, Imm: 1},
		{Op: api.Addi, Rd: 5, Rs1: 6, Imm: 2048}, {Op: api.Addi, Rd: 5, Rs1: 6, Imm: -2049}, {Op: api.Addi, Rd: 5, Rs1: 6, Rs2: 1}, {Op: api.Slli, Rd: 5, Rs1: 6, Imm: 32}, {Op: api.Slli, Rd: 5, Rs1: 6, Imm: -1},
		{Op: api.Lui, Rd: 5, Imm: 1 << 20}, {Op: api.Lui, Rd: 5, Imm: -1}, {Op: api.Lui, Rd: 5, Rs1: 1}, {Op: api.Auipc, Rd: 5, Rs2: 1},
		{Op: api.Lw, Rd: 5, Rs1: 6, Imm: 1 << 32}, {Op: api.Sw, Rd: 5, Rs1: 6, Rs2: 7}, {Op: api.Sw, Rs1: 6, Rs2: 7, Imm: 2048},
		{Op: api.Beq, Rs1: 6, Rs2: 7, Imm: 1}, {Op: api.Beq, Rs1: 6, Rs2: 7, Imm: 4096}, {Op: api.Bne, Rd: 5, Imm: 8},
		{Op: api.Jal, Rd: 5, Imm: 3}, {Op: api.Jal, Rd: 5, Imm: 1 << 20}, {Op: api.Jal, Rd: 5, Rs1: 6}, {Op: api.Jal, Rd: 32},
		{Op: api.Jalr, Rd: 5, Rs1: 6, Imm: 2048}, {Op: api.Jalr, Rd: 5, Rs2: 6}, {Op: api.Jalr, Rd: 32}, {Op: api.Jalr, Rs1: -1},
		{Op: api.Ecall, Rd: 10}, {Op: api.Ecall, Imm: 1}, {Op: api.Ecall, Rs1: 1}, {Op: api.Ebreak, Rd: 5}, {Op: api.Ebreak, Rs2: 1}, {Op: api.Ebreak, Imm: 1},
	}
	for _, x := range l {
		one(t, x, every, 0)
	}
}

// P9.2

func TestBackOfFew(t *testing.T) {
	two := []api.Inst{addi(1, 2, 0), add(3, 1, 1)}
	for _, c := range []struct {
		name         string
		l            []api.Inst
		behind, want uint32
	}{
		{"the chapter's example", two, 8, 4},
		{"the same, none behind", two, 0, 4},
		{"what is set does not count ahead", two, regs(1, 3), 4},
		{"what is not set does", two, regs(2, 20, 31), regs(2, 20, 31)},
		{"all behind", two, every, every &^ regs(1, 3)},
		{"the bit 0", two, 9, 4},
		{"the bit 0 alone", two, 1, 4},
		{"no instruction", nil, 0x12345678, 0x12345678},
		{"no instruction, and the bit 0", nil, math.MaxUint32, every},
		{"no instruction, the bit 0 alone", []api.Inst{}, 1, 0},
		{"one that sets what it needs", []api.Inst{addi(5, 5, 1)}, regs(6), regs(5, 6)},
		{"one that sets what it needs, and that counts", []api.Inst{add(5, 5, 6)}, regs(5), regs(5, 6)},
		{"needed, then set", []api.Inst{sw(6, 5), addi(5, 0, 1)}, regs(5), regs(5, 6)},
		{"set, then needed", []api.Inst{addi(5, 0, 1), sw(6, 5)}, regs(5), regs(6)},
		{"set twice", []api.Inst{addi(5, 6, 1), addi(5, 7, 1)}, regs(5), regs(6, 7)},
		{"needed ahead of both", []api.Inst{sw(0, 5), addi(5, 0, 1), addi(5, 5, 1)}, regs(5), regs(5)},
		{"the register 0 is set", []api.Inst{addi(0, 5, 1)}, 1, regs(5)},
		{"the register 0 is needed", []api.Inst{add(5, 0, 0)}, regs(5, 6), regs(6)},
		{"a call", []api.Inst{ecall()}, 0, 0x3fc00},
		{"a call's answer", []api.Inst{ecall()}, regs(5, 10), 0x3fc00 | regs(5)},
		{"a call of what is set", []api.Inst{addi(10, 0, 1), addi(17, 5, 0), ecall()}, regs(10), 0x1f800 | regs(5)},
		{"a call's answer is set", []api.Inst{sw(2, 10), ecall(), addi(10, 0, 0)}, 0, 0x3fc00 | regs(2)},
		{"a call by a register", []api.Inst{jalr(1, 5)}, 0, every},
		{"behind what is set, a call by a register", []api.Inst{addi(5, 0, 1), jalr(1, 5)}, 0, every &^ regs(5)},
		{"a call that comes back", []api.Inst{jal(1, 8)}, every, every &^ regs(1)},
		{"a jump", []api.Inst{jal(0, 8)}, regs(1, 7), regs(1, 7)},
		{"a branch", []api.Inst{bne(3, 4, 8)}, regs(7), regs(3, 4, 7)},
		{"it stops", []api.Inst{addi(5, 0, 1), stop(), addi(6, 0, 1)}, 0, every &^ regs(5)},
		{"not right", []api.Inst{addi(5, 0, 1), {Op: -1}}, 0, every &^ regs(5)},
		{"not right, at first", []api.Inst{{Op: api.Add, Rd: 5, Imm: 1}, addi(5, 0, 1)}, 0, every},
	} {
		if w := Back(c.l, c.behind); w != c.want {
			t.Errorf("%s: %x; not %x", c.name, w, c.want)
		}
	}
}

func TestBackOfMany(t *testing.T) {
	r := rand.New(rand.NewSource(92))
	for range 30000 {
		var l []api.Inst
		for range r.Intn(12) {
			if r.Intn(24) == 0 {
				l = append(l, chanceAt(r, 0, 4))
			}
			l = append(l, chanceInst(r))
		}
		behind := []uint32{r.Uint32(), r.Uint32() & r.Uint32() & r.Uint32(), 0, math.MaxUint32, 1}[r.Intn(5)]
		want := modelBack(l, behind)
		if w := Back(l, behind); w != want {
			t.Fatalf("%+v behind %x: %x; not %x", l, behind, w, want)
		}
		if w := Back(l, behind^1); w != want {
			t.Fatalf("%+v behind %x: the bit 0 counts: %x", l, behind, w)
		}
		k := 0
		if len(l) > 0 {
			k = r.Intn(len(l))
		}
		if w := Back(l[:k], Back(l[k:], behind)); w != want {
			t.Fatalf("%+v behind %x: in two parts %x; not %x", l, behind, w, want)
		}
	}
}

// What is not right needs all, and sets none, amid others, too.
func TestBackOfWhatIsNotRight(t *testing.T) {
	r := rand.New(rand.NewSource(192))
	for range 1000 {
		l := []api.Inst{chanceInst(r), chanceInst(r)}
		odd := api.Inst{Op: api.Add, Rd: 40}
		if w, want := Back(append(l, odd, chanceInst(r)), r.Uint32()), modelBack(l, every); w != want {
			t.Fatalf("%+v: %x; not %x", l, w, want)
		}
	}
}
