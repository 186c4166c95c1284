package blocks

import (
	"math"
	"math/rand"
	"slices"
	"testing"

	"whetstone/api"
	"whetstone/elf"
	"whetstone/image"
	"whetstone/inst"
)

// word is a right instruction's word.
func word(x api.Inst) uint32 {
	w, e := inst.Encode(x)
	if e != api.OK {
		panic(x)
	}
	return w
}

// Short forms of the instructions that the tests' texts are made of.
func nop() uint32              { return word(api.Inst{Op: api.Addi}) }
func beq(imm int) uint32       { return word(api.Inst{Op: api.Beq, Imm: imm}) }
func jal(rd, imm int) uint32   { return word(api.Inst{Op: api.Jal, Rd: rd, Imm: imm}) }
func jalr(rd int) uint32       { return word(api.Inst{Op: api.Jalr, Rd: rd, Rs1: 1}) }
func ecall() uint32            { return word(api.Inst{Op: api.Ecall}) }
func stop() uint32             { return word(api.Inst{Op: api.Ebreak}) }
func nops(n int) []uint32      { return slices.Repeat([]uint32{nop()}, n) }
func row(l ...uint32) []uint32 { return l }
func b(at, n int) api.Block    { return api.Block{At: uint32(at), N: n} }

// from is a text from 0x1000 on that begins at its first word.
func from(l ...uint32) api.Image {
	return api.Image{Base: 0x1000, Entry: 0x1000, Words: l}
}

// finds fails unless Find answers these blocks.
func finds(t *testing.T, name string, i api.Image, entries []uint32, want ...api.Block) []api.Block {
	t.Helper()
	l, e := Find(i, entries)
	if e != api.OK || !slices.Equal(l, want) {
		t.Errorf("%s: %v, %v; not %v", name, l, e, want)
	}
	return l
}

// fails fails unless Find answers the error, and nothing beside it.
func fails(t *testing.T, name string, i api.Image, entries []uint32, want api.Errno) {
	t.Helper()
	if l, e := Find(i, entries); e != want || len(l) != 0 {
		t.Errorf("%s: %v, %v; not %v", name, l, e, want)
	}
}

// leads fails unless Next answers these numbers.
func leads(t *testing.T, i api.Image, l []api.Block, k int, away bool, want ...int) {
	t.Helper()
	if n, is := Next(i, l, k); is != away || !slices.Equal(n, want) {
		t.Errorf("Next of block %d of %v: %v, %v; not %v, %v", k, l, n, is, want, away)
	}
}

// goes fails unless After and Ends answer these.
func goes(t *testing.T, x api.Inst, at uint32, ends bool, want ...uint32) {
	t.Helper()
	if l := After(x, at); !slices.Equal(l, want) || Ends(x) != ends {
		t.Errorf("%+v at %#x: %#x, %v; not %#x, %v", x, at, l, Ends(x), want, ends)
	}
}

// places are addresses at the ends, amid, and odd ones.
func places() []uint32 {
	return []uint32{0, 4, 8, 0x1000, 1<<31 - 8, 1<<31 - 4, 1 << 31, 1<<31 + 4, turn - 8, turn - 4, 1, 2, 3, turn - 1, turn - 2, turn - 5}
}

// P8.1

func TestGroupsHaveEachKind(t *testing.T) {
	m := groups()
	for op := range api.Ops {
		if m[op] == "" {
			t.Errorf("the kind %d is in no group", op)
		}
	}
	if len(m) != api.Ops {
		t.Error(len(m))
	}
}

// kindsOf are right instructions of a kind, with its numbers' ends.
func kindsOf(op int) []api.Inst {
	var l []api.Inst
	for _, rd := range []int{0, 1, 5, 31} {
		for _, rs := range []int{0, 1, 31} {
			for _, n := range []int{0, 1, 2, 3, 4, 6, 8, 12, 31, -1, -2, -4, -8, 2047, -2048, 4094, -4096, 1<<20 - 2, -1 << 20, 1<<20 - 1} {
				for _, rs2 := range []int{0, 1, 31} {
					if x := (api.Inst{Op: op, Rd: rd, Rs1: rs, Rs2: rs2, Imm: n}); inst.Right(x) {
						l = append(l, x)
					}
				}
			}
		}
	}
	return l
}

func TestAfterOfEachKind(t *testing.T) {
	for op := range api.Ops {
		l := kindsOf(op)
		if len(l) == 0 {
			t.Errorf("no instruction of the kind %d", op)
		}
		for _, x := range l {
			for _, at := range places() {
				want, ends := modelAfter(x, int(at))
				var w []uint32
				for _, a := range want {
					w = append(w, uint32(a))
				}
				goes(t, x, at, ends, w...)
			}
		}
	}
}

func TestAfterOfPlainOnes(t *testing.T) {
	for _, op := range []int{api.Lui, api.Auipc, api.Lw, api.Sw, api.Addi, api.Srai, api.Sub, api.Remu, api.Ecall} {
		x := api.Inst{Op: op}
		goes(t, x, 8, false, 12)
		goes(t, x, 0, false, 4)
		goes(t, x, 0x7ffffffc, false, 0x80000000)
		goes(t, x, 0xfffffffc, false, 0)
		goes(t, x, 0xffffffff, false, 3)
	}
}

func TestAfterOfBranches(t *testing.T) {
	for op := api.Beq; op <= api.Bgeu; op++ {
		to := func(n int) api.Inst { return api.Inst{Op: op, Rs1: 3, Rs2: 4, Imm: n} }
		goes(t, to(0), 8, true, 8, 12)
		goes(t, to(4), 8, true, 12)
		goes(t, to(2), 8, true, 10, 12)
		goes(t, to(6), 8, true, 12, 14)
		goes(t, to(8), 8, true, 12, 16)
		goes(t, to(-8), 8, true, 0, 12)
		goes(t, to(-12), 8, true, 12, 0xfffffffc)
		goes(t, to(-4096), 0x1000, true, 0, 0x1004)
		goes(t, to(4094), 0x1000, true, 0x1004, 0x1ffe)
		goes(t, to(8), 0xfffffffc, true, 0, 4)
		goes(t, to(4), 0xfffffffc, true, 0)
		goes(t, to(0), 0xfffffffc, true, 0, 0xfffffffc)
		goes(t, to(-4), 0xfffffffc, true, 0, 0xfffffff8)
		goes(t, to(8), 0xfffffff8, true, 0, 0xfffffffc)
		goes(t, to(4094), 0xfffffff8, true, 0xff6, 0xfffffffc)
		goes(t, to(-4096), 0, true, 4, 0xfffff000)
	}
}

func TestAfterOfJal(t *testing.T) {
	for _, c := range []struct {
		n     int
		at    uint32
		there uint32
	}{
		{0, 8, 8}, {2, 8, 10}, {8, 8, 16}, {-8, 8, 0}, {-12, 8, 0xfffffffc}, {8, 0xfffffff8, 0}, {12, 0xfffffff8, 4},
		{1<<20 - 2, 0xfff00000, 0xffffe + 0xfff00000}, {1<<20 - 2, 0xfffffffc, 0xffffa}, {-1 << 20, 0, 0xfff00000}, {-1 << 20, 1 << 20, 0},
		{0, 0xfffffffc, 0xfffffffc},
	} {
		goes(t, api.Inst{Op: api.Jal, Imm: c.n}, c.at, true, c.there)
		on := c.at + 4
		for _, rd := range []int{1, 5, 31} {
			goes(t, api.Inst{Op: api.Jal, Rd: rd, Imm: c.n}, c.at, true, min(on, c.there), max(on, c.there))
		}
	}
	for _, at := range places() {
		goes(t, api.Inst{Op: api.Jal, Imm: 4}, at, true, at+4)
		goes(t, api.Inst{Op: api.Jal, Rd: 1, Imm: 4}, at, true, at+4)
	}
}

func TestAfterOfJalrAndEbreak(t *testing.T) {
	for _, at := range places() {
		for _, n := range []int{0, 4, -4, 8, -2048, 2047} {
			for _, rs := range []int{0, 1, 31} {
				goes(t, api.Inst{Op: api.Jalr, Rs1: rs, Imm: n}, at, true)
				for _, rd := range []int{1, 5, 31} {
					goes(t, api.Inst{Op: api.Jalr, Rd: rd, Rs1: rs, Imm: n}, at, true, at+4)
				}
			}
		}
		goes(t, api.Inst{Op: api.Ebreak}, at, true)
		goes(t, api.Inst{Op: api.Ecall}, at, false, at+4)
	}
}

func TestAfterOfWhatIsNotRight(t *testing.T) {
	l := []api.Inst{
		{Op: -1}, {Op: api.Ops}, {Op: api.Ops + 1}, {Op: math.MinInt}, {Op: math.MaxInt}, {Op: 1 << 32}, {Op: 1<<32 + api.Jal},
		{Op: api.Addi, Imm: 2048}, {Op: api.Addi, Imm: -2049}, {Op: api.Addi, Rs2: 1}, {Op: api.Add, Imm: 4}, {Op: api.Slli, Imm: 32}, {Op: api.Lui, Imm: -1},
		{Op: api.Sw, Rd: 1}, {Op: api.Lw, Rd: 32}, {Op: api.Lw, Rs1: -1},
		{Op: api.Beq, Imm: 1}, {Op: api.Beq, Imm: 4096}, {Op: api.Bne, Imm: -4098}, {Op: api.Bgeu, Rd: 1, Imm: 8}, {Op: api.Blt, Rs1: 32, Imm: 8}, {Op: api.Bge, Rs2: -1, Imm: 8}, {Op: api.Bltu, Imm: 1<<32 + 8},
		{Op: api.Jal, Imm: 3}, {Op: api.Jal, Imm: 1 << 20}, {Op: api.Jal, Rd: 32, Imm: 8}, {Op: api.Jal, Rd: -1, Imm: 8}, {Op: api.Jal, Rs1: 1, Imm: 8}, {Op: api.Jal, Rd: 1, Rs2: 1, Imm: 8}, {Op: api.Jal, Imm: 1<<32 + 8},
		{Op: api.Jalr, Rd: 1, Imm: 2048}, {Op: api.Jalr, Rd: 1, Rs2: 1}, {Op: api.Jalr, Rd: 32}, {Op: api.Jalr, Rd: -1}, {Op: api.Jalr, Rd: 1, Rs1: 32},
		{Op: api.Ecall, Rd: 10}, {Op: api.Ecall, Imm: 4}, {Op: api.Ecall, Rs1: 1}, {Op: api.Ebreak, Rd: 1}, {Op: api.Ebreak, Imm: 4},
	}
	for _, x := range l {
		for _, at := range places() {
			goes(t, x, at, true)
		}
	}
}

// P8.2

func TestFindOrdinary(t *testing.T) {
	finds(t, "one word", from(stop()), nil, b(0x1000, 1))
	finds(t, "no branch", from(nop(), nop(), ecall(), stop()), nil, b(0x1000, 4))
	finds(t, "the chapter's example", from(beq(8), nop(), stop()), nil, b(0x1000, 1), b(0x1004, 1), b(0x1008, 1))
	finds(t, "a loop", from(nop(), nop(), beq(-4), stop()), nil, b(0x1000, 1), b(0x1004, 2), b(0x100c, 1))
	finds(t, "a loop of one", from(jal(0, 0), nop()), nil, b(0x1000, 1))
	finds(t, "a loop of all", from(nop(), nop(), jal(0, -8)), nil, b(0x1000, 3))
	finds(t, "a call that comes back", from(nop(), jal(1, 12), nop(), stop(), nop(), jalr(0)), nil, b(0x1000, 2), b(0x1008, 2), b(0x1010, 2))
	finds(t, "a call by a register", from(nop(), jalr(1), nop(), jalr(0), nop()), nil, b(0x1000, 2), b(0x1008, 2))
	finds(t, "a call of the next one", from(nop(), jal(1, 4), nop(), stop()), nil, b(0x1000, 2), b(0x1008, 2))
	finds(t, "what is jumped over", from(jal(0, 12), 0, nop(), stop()), nil, b(0x1000, 1), b(0x100c, 1))
	finds(t, "an entry amid", api.Image{Base: 0x1000, Entry: 0x1008, Words: row(nop(), nop(), nop(), stop(), nop())}, nil, b(0x1008, 2))
	finds(t, "back from the entry", api.Image{Base: 0x1000, Entry: 0x1008, Words: row(nop(), stop(), jal(0, -8))}, nil, b(0x1000, 2), b(0x1008, 1))
}

func TestFindOfEntries(t *testing.T) {
	i := from(nop(), nop(), stop(), nop(), nop(), stop(), 0)
	finds(t, "none", i, nil, b(0x1000, 3))
	finds(t, "an empty list", i, []uint32{}, b(0x1000, 3))
	finds(t, "the entry again", i, row(0x1000, 0x1000), b(0x1000, 3))
	finds(t, "one elsewhere", i, row(0x100c), b(0x1000, 3), b(0x100c, 3))
	finds(t, "the same one twice", i, row(0x100c, 0x100c), b(0x1000, 3), b(0x100c, 3))
	finds(t, "one within a block", i, row(0x1004), b(0x1000, 1), b(0x1004, 2))
	finds(t, "one at a block's end", i, row(0x1008), b(0x1000, 2), b(0x1008, 1))
	finds(t, "several, falling", i, row(0x1014, 0x100c, 0x1008, 0x100c), b(0x1000, 2), b(0x1008, 1), b(0x100c, 2), b(0x1014, 1))
	fails(t, "one of them odd", i, row(0x1014, 0x1018), api.ErrBlocksWord)
}

func TestFindAtTheEnds(t *testing.T) {
	finds(t, "at 0", api.Image{Words: row(beq(8), stop(), stop())}, nil, b(0, 1), b(4, 1), b(8, 1))
	high := api.Image{Base: turn - 12, Entry: turn - 12, Words: row(nop(), beq(4), stop())}
	finds(t, "up to 2^32", high, nil, b(turn-12, 2), b(turn-4, 1))
	half := api.Image{Base: 1<<31 - 4, Entry: 1<<31 - 4, Words: row(nop(), beq(-4), stop())}
	finds(t, "over half of the addresses", half, nil, b(1<<31-4, 2), b(1<<31+4, 1))
	fails(t, "on beyond 2^32", api.Image{Base: turn - 4, Entry: turn - 4, Words: row(nop())}, nil, api.ErrBlocksAway)
	fails(t, "a jump beyond 2^32", api.Image{Base: turn - 8, Entry: turn - 8, Words: row(jal(0, 12), stop())}, nil, api.ErrBlocksAway)
	fails(t, "a jump below 0", api.Image{Words: row(jal(0, -4), stop())}, nil, api.ErrBlocksAway)
}

func TestFindAway(t *testing.T) {
	two := row(nop(), stop())
	for _, at := range []uint32{0, 0xffc, 0xfff, 0x1001, 0x1002, 0x1003, 0x1005, 0x1006, 0x1007, 0x1008, 0x100c, 1 << 31, turn - 4, turn - 1} {
		fails(t, "an entry", api.Image{Base: 0x1000, Entry: at, Words: two}, nil, api.ErrBlocksAway)
		fails(t, "another entry", from(two...), row(at), api.ErrBlocksAway)
		fails(t, "the last of the other entries", from(two...), row(0x1000, 0x1004, 0x1000, at), api.ErrBlocksAway)
		fails(t, "the first of the other entries", from(two...), row(at, 0x1004), api.ErrBlocksAway)
	}
	fails(t, "no words", from(), nil, api.ErrBlocksAway)
	fails(t, "on behind the text", from(nop()), nil, api.ErrBlocksAway)
	fails(t, "on behind the text, later", from(nop(), ecall()), nil, api.ErrBlocksAway)
	fails(t, "a branch at the end", from(beq(0)), nil, api.ErrBlocksAway)
	fails(t, "a call at the end", from(stop(), jal(1, -4)), row(0x1004), api.ErrBlocksAway)
	fails(t, "a call by a register at the end", from(jalr(5)), nil, api.ErrBlocksAway)
	finds(t, "no call at the end", from(jalr(0)), nil, b(0x1000, 1))
	for _, n := range []int{-4, -8, -2, 2, 6, 8, 12, 1024, -1024} {
		fails(t, "a branch", from(beq(n), stop()), nil, api.ErrBlocksAway)
		fails(t, "a jump", from(jal(0, n), stop()), nil, api.ErrBlocksAway)
		fails(t, "a call", from(jal(1, n), stop()), nil, api.ErrBlocksAway)
	}
}

func TestFindWord(t *testing.T) {
	for _, w := range []uint32{0, 0xffffffff, 0x00200073, 0x00001067, 0x0000000f, 0x00002063, 0x02001013} {
		fails(t, "the entry", from(w), nil, api.ErrBlocksWord)
		fails(t, "another entry", from(stop(), w), row(0x1004), api.ErrBlocksWord)
		fails(t, "the next one", from(nop(), w, stop()), nil, api.ErrBlocksWord)
		fails(t, "behind a call", from(ecall(), w, stop()), nil, api.ErrBlocksWord)
		fails(t, "behind a call that comes back", from(jal(1, 8), w, stop()), nil, api.ErrBlocksWord)
		fails(t, "behind a call by a register", from(jalr(1), w), nil, api.ErrBlocksWord)
		fails(t, "where a branch goes", from(beq(8), stop(), w), nil, api.ErrBlocksWord)
		fails(t, "where a branch does not go", from(beq(8), w, stop()), nil, api.ErrBlocksWord)
		fails(t, "where a jump goes", from(jal(0, 8), stop(), w), nil, api.ErrBlocksWord)
		finds(t, "not reached behind a jump", from(jal(0, 8), w, stop(), w), nil, b(0x1000, 1), b(0x1008, 1))
		finds(t, "not reached behind a way back", from(jalr(0), w), nil, b(0x1000, 1))
		finds(t, "not reached behind a stop", from(stop(), w), nil, b(0x1000, 1))
		finds(t, "not reached ahead", api.Image{Base: 0x1000, Entry: 0x1004, Words: row(w, stop())}, nil, b(0x1004, 1))
	}
}

// R2: of several addresses that are away or have no instruction the least one tells.
func TestFindLeastAddress(t *testing.T) {
	w, a := api.ErrBlocksWord, api.ErrBlocksAway
	fails(t, "no instruction, then away", from(beq(4), 0, stop()), row(0x1008, 0x100c), w)
	fails(t, "no instruction, then away, as entries", from(stop(), 0), row(0x1008, 0x1004), w)
	fails(t, "away ahead, then no instruction", from(0), row(0xffc), a)
	fails(t, "no instruction, then away behind", from(0), row(0x1004), w)
	fails(t, "odd amid, then no instruction", from(stop(), 0), row(0x1004, 0x1002), a)
	fails(t, "no instruction, then odd amid", from(0, stop()), row(0x1002), w)
	fails(t, "away at 0, then no instruction", from(0), row(0), a)
	fails(t, "no instruction, then away far behind", from(0), row(turn-4), w)
	fails(t, "a branch to an odd place ahead of no instruction", from(nop(), beq(6), stop(), 0), row(0x100c), a)
	fails(t, "a branch to an odd place behind no instruction", from(beq(10), 0, stop()), nil, w)
	fails(t, "back below 0 is far behind", api.Image{Words: row(beq(-4), 0)}, nil, w)
	fails(t, "beyond 2^32 is far ahead", api.Image{Base: turn - 8, Entry: turn - 8, Words: row(beq(8), 0)}, nil, a)
	fails(t, "beyond half of the addresses", api.Image{Base: 1<<31 - 4, Entry: 1<<31 - 4, Words: row(0, stop())}, row(1<<31+4), w)
	fails(t, "ahead of half of the addresses", api.Image{Base: 1 << 31, Entry: 1 << 31, Words: row(0)}, row(1<<31-4), a)
	for n := 1; n < 6; n++ {
		fails(t, "many without an instruction, then away", from(make([]uint32, n)...), row(0x1000, 0x1000+4*uint32(n)), w)
	}
}

// What stands behind an address that is away, or has no instruction, is not reached by it.
func TestFindStopsAtAFault(t *testing.T) {
	fails(t, "behind no instruction the text ends", from(nop(), 0), nil, api.ErrBlocksWord)
	// Taken as an instruction that goes on, or as Lui x0, 0, the word 0 would lead to the place ahead of the text.
	i := api.Image{Base: 4, Entry: 8, Words: row(jal(0, -4), 0)}
	fails(t, "no instruction leads nowhere", i, nil, api.ErrBlocksWord)
	fails(t, "away leads nowhere", api.Image{Base: 4, Entry: turn - 4, Words: row(0)}, nil, api.ErrBlocksAway)
	// Behind 0xfffffffc would stand 0, which is least.
	high := api.Image{Base: turn - 8, Entry: turn - 4, Words: row(stop(), 0)}
	fails(t, "no instruction at the last address", high, nil, api.ErrBlocksWord)
	fails(t, "no instruction at the last address, and odd ones about", high, row(turn-1, turn-3), api.ErrBlocksWord)
	fails(t, "away at the last address", api.Image{Base: 0, Entry: turn - 4, Words: row(0)}, nil, api.ErrBlocksAway)
}

// P8.3

func TestLeaders(t *testing.T) {
	finds(t, "both ways of a branch", from(nop(), beq(12), nop(), nop(), nop(), stop()), nil, b(0x1000, 2), b(0x1008, 2), b(0x1010, 2))
	finds(t, "a branch to where it stands", from(nop(), beq(0), stop()), nil, b(0x1000, 1), b(0x1004, 1), b(0x1008, 1))
	finds(t, "a branch to the next one", from(nop(), beq(4), nop(), stop()), nil, b(0x1000, 2), b(0x1008, 2))
	finds(t, "a branch into its own block", from(nop(), nop(), nop(), beq(-8), stop()), nil, b(0x1000, 1), b(0x1004, 3), b(0x1010, 1))
	finds(t, "a jump into its own block", from(nop(), nop(), nop(), jal(0, -4)), nil, b(0x1000, 2), b(0x1008, 2))
	finds(t, "a jump into another block", from(nop(), nop(), stop(), jal(0, -8)), row(0x100c), b(0x1000, 1), b(0x1004, 2), b(0x100c, 1))
	finds(t, "a branch that is not reached", from(nop(), nop(), stop(), beq(-8), stop()), nil, b(0x1000, 3))
	finds(t, "behind one that is not reached", from(jal(0, 8), nop(), nop(), stop()), nil, b(0x1000, 1), b(0x1008, 2))
	finds(t, "on to a leader of its own", from(jal(0, 8), nop(), nop(), beq(-8), stop()), nil, b(0x1000, 1), b(0x1004, 1), b(0x1008, 2), b(0x1010, 1))
	finds(t, "calls go on", from(ecall(), ecall(), nop(), ecall(), stop()), nil, b(0x1000, 5))
	finds(t, "each one a block", from(beq(4), beq(4), beq(4), stop()), nil, b(0x1000, 1), b(0x1004, 1), b(0x1008, 1), b(0x100c, 1))
	finds(t, "each one an entry", from(append(nops(3), stop())...), row(0x100c, 0x1004, 0x1008), b(0x1000, 1), b(0x1004, 1), b(0x1008, 1), b(0x100c, 1))
	finds(t, "a leader reached by going on first", from(nop(), nop(), beq(-4), jal(0, -12)), nil, b(0x1000, 1), b(0x1004, 2), b(0x100c, 1))
}

func TestEachKindInABlock(t *testing.T) {
	for op := range api.Ops {
		x := api.Inst{Op: op}
		if inst.Form(op) == 'B' || op == api.Jal {
			x.Imm = 4
		}
		i := from(nop(), word(x), nop(), stop())
		switch {
		case op == api.Jalr || op == api.Ebreak:
			finds(t, "stops", i, nil, b(0x1000, 2))
		case Ends(x):
			finds(t, "ends", i, nil, b(0x1000, 2), b(0x1008, 2))
		default:
			finds(t, "goes on", i, nil, b(0x1000, 4))
		}
	}
}

func TestLongTexts(t *testing.T) {
	n := 1 << 19
	i := from(append(nops(n-1), stop())...)
	finds(t, "one block", i, nil, b(0x1000, n))
	i = from(append(slices.Repeat(row(beq(4), nop()), n/2), stop())...)
	l, e := Find(i, nil)
	if e != api.OK || len(l) != n/2+1 {
		t.Fatal(len(l), e)
	}
	for k := range n / 2 {
		if want := b(0x1000+8*k-4*min(k, 1), 1+min(k, 1)); l[k] != want {
			t.Fatalf("block %d is %v, not %v", k, l[k], want)
		}
		if next, away := Next(i, l, k); len(next) != 1 || next[0] != k+1 || away {
			t.Fatalf("block %d: %v, %v", k, next, away)
		}
	}
}

// P8.4

func TestNextOfTheExample(t *testing.T) {
	i := from(beq(8), nop(), stop())
	l, _ := Find(i, nil)
	leads(t, i, l, 0, false, 1, 2)
	leads(t, i, l, 1, false, 2)
	leads(t, i, l, 2, false)
}

func TestNextOfEachEnd(t *testing.T) {
	// 1000 nop, 1004 beq -4; 1008 jal x1 +20; 100c jal x0 +12; 1010 nop, 1014 jalr x5; 1018 jal x0 -8; 101c nop, 1020 jalr x0; 1024 nop; 1028 ebreak.
	i := from(nop(), beq(-4), jal(1, 20), jal(0, 12), nop(), jalr(5), jal(0, -8), nop(), jalr(0), nop(), stop())
	l := finds(t, "the text", i, row(0x1010, 0x1024, 0x1028),
		b(0x1000, 2), b(0x1008, 1), b(0x100c, 1), b(0x1010, 2), b(0x1018, 1), b(0x101c, 2), b(0x1024, 1), b(0x1028, 1))
	leads(t, i, l, 0, false, 0, 1)
	leads(t, i, l, 1, false, 2, 5)
	leads(t, i, l, 2, false, 4)
	leads(t, i, l, 3, true, 4)
	leads(t, i, l, 4, false, 3)
	leads(t, i, l, 5, true)
	leads(t, i, l, 6, false, 7)
	leads(t, i, l, 7, false)
}

func TestNextOfSelfAndBack(t *testing.T) {
	i := from(jal(0, 0))
	l, _ := Find(i, nil)
	leads(t, i, l, 0, false, 0)
	i = from(beq(0), stop())
	l, _ = Find(i, nil)
	leads(t, i, l, 0, false, 0, 1)
	i = from(nop(), jal(1, -4), stop())
	l, _ = Find(i, nil)
	leads(t, i, l, 0, false, 0, 1)
	i = api.Image{Base: turn - 12, Entry: turn - 12, Words: row(nop(), beq(-4), stop())}
	l, _ = Find(i, nil)
	leads(t, i, l, 0, false, 0, 1)
	leads(t, i, l, 1, false)
}

func TestNextOfNoBlock(t *testing.T) {
	i := from(beq(8), nop(), jalr(0))
	l, _ := Find(i, nil)
	for _, k := range []int{-1, -2, -3, 3, 4, math.MinInt, math.MaxInt, 1 << 32, -1 << 32, 1<<32 + 2} {
		leads(t, i, l, k, false)
	}
	for _, k := range []int{-1, 0, 1} {
		leads(t, i, nil, k, false)
		leads(t, i, []api.Block{}, k, false)
	}
}

// P8.5

// covered are the addresses of blocks, each with its block's number; it fails if two meet.
func covered(t *testing.T, l []api.Block) map[uint32]int {
	t.Helper()
	m := map[uint32]int{}
	for k, c := range l {
		if c.N < 1 || k > 0 && l[k-1].At >= c.At {
			t.Fatalf("blocks %v", l)
		}
		for n := range c.N {
			at := c.At + 4*uint32(n)
			if _, is := m[at]; is {
				t.Fatalf("two blocks of %v meet at %#x", l, at)
			}
			m[at] = k
		}
	}
	return m
}

func TestAsModel(t *testing.T) {
	r := rand.New(rand.NewSource(85))
	seen := map[api.Errno]int{}
	for range 20000 {
		i, entries := chance(r)
		l, e := Find(i, entries)
		want, no := modelFind(i, entries)
		seen[no]++
		if e != no || !slices.Equal(l, want) {
			t.Fatalf("Find(%+v, %#x) = %v, %v; not %v, %v", i, entries, l, e, want, no)
		}
		for k := -2; k < len(l)+2; k++ {
			next, away := modelNext(i, l, k)
			leads(t, i, l, k, away, next...)
		}
	}
	for _, e := range []api.Errno{api.OK, api.ErrBlocksAway, api.ErrBlocksWord} {
		if seen[e] < 500 {
			t.Errorf("the error %v was met %d times only", e, seen[e])
		}
	}
}

func TestWhatFollows(t *testing.T) {
	r := rand.New(rand.NewSource(185))
	more := 0
	for range 10000 {
		i, entries := chance(r)
		l, e := Find(i, entries[:len(entries)/2])
		if e != api.OK {
			continue
		}
		m := covered(t, l)
		if k, is := m[i.Entry]; !is || l[k].At != i.Entry {
			t.Fatalf("the entry %#x begins none of %v", i.Entry, l)
		}
		for k, c := range l {
			next, _ := Next(i, l, k)
			at := c.At + 4*uint32(c.N-1)
			w, _ := image.At(i, at)
			x, _ := inst.Decode(w)
			for j, a := range After(x, at) {
				if len(next) != len(After(x, at)) || l[next[j]].At != a {
					t.Fatalf("block %d of %v: %v, and its text leads to %#x", k, l, next, After(x, at))
				}
			}
		}
		all, e := Find(i, entries)
		if e != api.OK {
			continue
		}
		a := covered(t, all)
		for at := range m {
			if _, is := a[at]; !is {
				t.Fatalf("%#x is reached no more", at)
			}
		}
		if len(a) > len(m) {
			more++
		}
	}
	if more < 250 {
		t.Errorf("further entries led further %d times only", more)
	}
}

// Of more entries that are the blocks' own beginnings the blocks are the same.
func TestFindAgain(t *testing.T) {
	r := rand.New(rand.NewSource(285))
	for range 5000 {
		i, entries := chance(r)
		l, e := Find(i, entries)
		if e != api.OK {
			continue
		}
		for _, c := range l {
			entries = append(entries, c.At)
		}
		finds(t, "again", i, entries, l...)
	}
}

// A program's own text, as package image tells it.
func TestFindOfAProgram(t *testing.T) {
	x := api.Elf{Entry: 0x2004, Segs: []api.Seg{{Addr: 0x100, Size: 8, Flags: 6}, {Addr: 0x2000, Data: "\x73\x00\x10\x00\x13\x00\x00\x00\x6f\xf0\x9f\xff", Size: 12, Flags: 5}}}
	if e := elf.Check(x); e != api.OK {
		t.Fatal(e)
	}
	i, e := image.Of(x)
	if e != api.OK {
		t.Fatal(e)
	}
	l := finds(t, "a program", i, nil, b(0x2000, 1), b(0x2004, 2))
	leads(t, i, l, 0, false)
	leads(t, i, l, 1, false, 0)
}

// R1

func TestEndsOfAnyImage(t *testing.T) {
	l := [][]uint32{nil, row(nop()), nops(3), row(nop(), beq(-4), jal(1, 8), stop()), row(jal(0, -4)), row(beq(2), beq(-2), 0, jalr(1))}
	for _, words := range l {
		for _, base := range []uint32{1, 2, 3, 0x1001, turn - 1, turn - 2, turn - 3, turn - 4, turn - 8, turn - 12} {
			for _, entry := range []uint32{base, base + 3, base &^ 3, base + 4, 0, 4, turn - 4} {
				i := api.Image{Base: base, Entry: entry, Words: words}
				for _, entries := range [][]uint32{nil, row(0), row(turn-4, 4, 1)} {
					found, e := Find(i, entries)
					if e != api.OK && len(found) != 0 {
						t.Errorf("%+v: %v beside %v", i, found, e)
					}
					for k := -1; k <= len(found); k++ {
						_, _ = Next(i, found, k)
					}
				}
			}
		}
	}
}

func TestNextEndsOfAnyBlocks(t *testing.T) {
	i := from(nop(), beq(8), jal(0, -8), jalr(1), stop(), 0)
	for _, n := range []int{0, 1, 2, 3, 4, 5, 6, 7, -1, math.MinInt, math.MaxInt, 1 << 30, 1 << 32} {
		for _, at := range []uint32{0, 0xffc, 0x1000, 0x1001, 0x1004, 0x1014, 0x1018, turn - 4} {
			l := []api.Block{{At: at, N: n}, {At: 0x1004, N: 1}, {At: at, N: n}, {At: 0x1000, N: -n}}
			for k := -1; k < 5; k++ {
				if next, away := Next(i, l, k); (k < 0 || k == 4) && (len(next) > 0 || away) {
					t.Error(k, next, away)
				}
			}
		}
	}
}

// R4

func TestNothingHandedInIsChanged(t *testing.T) {
	roomW := row(nop(), beq(4), nop(), stop(), 7, 8)
	roomE := row(0x100c, 0x1008, 0x1008, 9, 10)
	i := from(roomW[:4]...)
	i.Words = roomW[:4]
	beforeW, beforeE := slices.Clone(roomW), slices.Clone(roomE)
	l, e := Find(i, roomE[:3])
	if e != api.OK {
		t.Fatal(e)
	}
	roomB := append(slices.Clone(l), b(1, 1), b(2, 2))
	beforeB := slices.Clone(roomB)
	for k := range l {
		next, _ := Next(i, roomB[:len(l)], k)
		_ = append(next, 1, 2, 3)
	}
	_ = append(l, b(3, 3))
	if !slices.Equal(roomW, beforeW) || !slices.Equal(roomE, beforeE) || !slices.Equal(roomB, beforeB) {
		t.Error("a list that was handed in is another one", roomW, roomE, roomB)
	}
}

func TestAnswersAreNew(t *testing.T) {
	x := api.Inst{Op: api.Beq, Imm: 8}
	p, q := After(x, 8), After(x, 8)
	p[0], p[1] = 1, 2
	if !slices.Equal(q, row(12, 16)) || !slices.Equal(After(x, 8), row(12, 16)) {
		t.Error("two answers of After share their memory", q)
	}
	i, entries := from(beq(8), nop(), stop()), row(0x1004)
	want := []api.Block{b(0x1000, 1), b(0x1004, 1), b(0x1008, 1)}
	l, _ := Find(i, entries)
	m, _ := Find(i, entries)
	entries[0], i.Words[0] = 99, 0
	if !slices.Equal(l, want) {
		t.Error("Find keeps what was handed in", l)
	}
	l[0] = b(7, 7)
	if !slices.Equal(m, want) {
		t.Error("two answers of Find share their memory", m)
	}
	i.Words[0] = beq(8)
	n, _ := Next(i, m, 0)
	o, _ := Next(i, m, 0)
	n[0], n[1] = 8, 9
	if !slices.Equal(o, []int{1, 2}) {
		t.Error("two answers of Next share their memory", o)
	}
}

func TestSpareRoomIsNew(t *testing.T) {
	for _, x := range []api.Inst{{Op: api.Beq, Imm: 4}, {Op: api.Addi}, {Op: api.Ebreak}, {Op: api.Jal, Imm: 8}} {
		l := After(x, 8)
		m := After(x, 8)
		l = append(l, 1, 2)
		if m = append(m, 3); l[len(m)-1] == 3 {
			t.Errorf("%+v: the room behind two answers is one", x)
		}
	}
	i := from(beq(8), nop(), stop())
	l, _ := Find(i, nil)
	for _, c := range l[len(l):cap(l)] {
		if c != (api.Block{}) {
			t.Error("a block stands in the room behind an answer", c)
		}
	}
}

// R5

func TestAnswersHangOnArgumentsAlone(t *testing.T) {
	i := from(beq(8), nop(), nop(), beq(-8), jal(1, 8), stop(), jalr(0))
	want, _ := modelFind(i, row(0x1008))
	for range 50 {
		_, _ = Find(from(0), nil)
		finds(t, "once more", i, row(0x1008), want...)
		_, _ = Next(i, want, -1)
	}
}
