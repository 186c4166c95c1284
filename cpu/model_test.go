package cpu

import (
	"testing"

	"whetstone/api"
	"whetstone/inst"
	"whetstone/mem"
)

const last = 0xffffffff

// wrapped is a whole number modulo 2^32.
func wrapped(v int64) uint32 {
	const all = 1 << 32
	return uint32(((v % all) + all) % all)
}

func signed(w uint32) int64 {
	if w >= 1<<31 {
		return int64(w) - 1<<32
	}
	return int64(w)
}

func unsigned(w uint32) int64 { return int64(w) }

func one(holds bool) int64 {
	if holds {
		return 1
	}
	return 0
}

func power(k uint32) int64 { return 1 << (k % 32) }

// floor divides by 2^k, towards the lesser one.
func floor(v, by int64) int64 {
	q := v / by
	if v%by < 0 {
		q--
	}
	return q
}

// plainValue is what the chapter says of a plain instruction, in whole numbers of 64 bits.
func plainValue(c api.Cpu, x api.Inst) (uint32, bool) {
	a, b, im := c.X[x.Rs1], c.X[x.Rs2], wrapped(int64(x.Imm))
	switch x.Op {
	case api.Lui:
		return wrapped(int64(x.Imm) * 4096), true
	case api.Auipc:
		return wrapped(int64(x.Imm)*4096 + int64(c.Pc)), true
	case api.Addi, api.Slti, api.Sltiu, api.Xori, api.Ori, api.Andi, api.Slli, api.Srli, api.Srai:
		b = im
	}
	switch x.Op {
	case api.Add, api.Addi:
		return wrapped(unsigned(a) + unsigned(b)), true
	case api.Sub:
		return wrapped(unsigned(a) - unsigned(b)), true
	case api.Sll, api.Slli:
		return wrapped(unsigned(a) * power(b)), true
	case api.Srl, api.Srli:
		return wrapped(unsigned(a) / power(b)), true
	case api.Sra, api.Srai:
		return wrapped(floor(signed(a), power(b))), true
	case api.Slt, api.Slti:
		return wrapped(one(signed(a) < signed(b))), true
	case api.Sltu, api.Sltiu:
		return wrapped(one(unsigned(a) < unsigned(b))), true
	case api.Xor, api.Xori:
		return a&^b | b&^a, true
	case api.Or, api.Ori:
		return wrapped(unsigned(a) + unsigned(b) - unsigned(a&b)), true
	case api.And, api.Andi:
		return a & b, true
	}
	return productOrQuotient(x.Op, a, b)
}

func productOrQuotient(op int, a, b uint32) (uint32, bool) {
	const half = 1 << 32
	switch op {
	case api.Mul:
		return wrapped(signed(a) * signed(b)), true
	case api.Mulh:
		return wrapped(floor(signed(a)*signed(b), half)), true
	case api.Mulhsu:
		return wrapped(floor(signed(a)*unsigned(b), half)), true
	case api.Mulhu:
		return uint32(uint64(a) * uint64(b) / half), true
	case api.Div:
		if b == 0 {
			return last, true
		}
		return wrapped(signed(a) / signed(b)), true
	case api.Divu:
		if b == 0 {
			return last, true
		}
		return a / b, true
	case api.Rem:
		if b == 0 {
			return a, true
		}
		return wrapped(signed(a) % signed(b)), true
	case api.Remu:
		if b == 0 {
			return a, true
		}
		return a % b, true
	}
	return 0, false
}

// bytesOf are how many bytes a load or a store takes; 0 of all else.
func bytesOf(op int) uint32 {
	switch op {
	case api.Lb, api.Lbu, api.Sb:
		return 1
	case api.Lh, api.Lhu, api.Sh:
		return 2
	case api.Lw, api.Sw:
		return 4
	}
	return 0
}

// goes tells whether a branch is taken; the second one: is it a branch?
func goes(op int, a, b uint32) (bool, bool) {
	switch op {
	case api.Beq:
		return a == b, true
	case api.Bne:
		return a != b, true
	case api.Blt:
		return signed(a) < signed(b), true
	case api.Bge:
		return signed(a) >= signed(b), true
	case api.Bltu:
		return unsigned(a) < unsigned(b), true
	case api.Bgeu:
		return unsigned(a) >= unsigned(b), true
	}
	return false, false
}

// bytesAt is a memory of the model's own: each byte that was ever written.
type bytesAt map[uint32]byte

func (b bytesAt) load(addr, n uint32) uint32 {
	v := uint32(0)
	for k := range n {
		v += uint32(b[addr+k]) << (8 * k)
	}
	return v
}

func (b bytesAt) store(addr, n, v uint32) {
	for k := range n {
		b[addr+k] = byte(v >> (8 * k))
	}
}

// told is the model's memory as that of package mem.
func (b bytesAt) told() *mem.Mem {
	m := mem.New()
	for addr, v := range b {
		m.Put(addr, string([]byte{v}))
	}
	return m
}

// modelStep is P4.2 a second time.
func modelStep(c api.Cpu, b bytesAt) (api.Cpu, int) {
	c.X[0] = 0
	if c.Pc&3 != 0 {
		return c, api.EndFetch
	}
	x, e := inst.Decode(b.load(c.Pc, 4))
	if e != api.OK {
		return c, api.EndIllegal
	}
	next := c
	next.Pc = wrapped(int64(c.Pc) + 4)
	addr := wrapped(int64(c.X[x.Rs1]) + int64(x.Imm))
	end := api.EndNone
	if v, ok := plainValue(c, x); ok {
		next.X[x.Rd] = v
	} else if take, ok := goes(x.Op, c.X[x.Rs1], c.X[x.Rs2]); ok {
		if take {
			next.Pc = wrapped(int64(c.Pc) + int64(x.Imm))
		}
	} else if n := bytesOf(x.Op); n > 0 {
		if addr%n != 0 {
			return c, api.EndAccess
		}
		v := b.load(addr, n)
		switch x.Op {
		case api.Sb, api.Sh, api.Sw:
			b.store(addr, n, c.X[x.Rs2])
		case api.Lb:
			next.X[x.Rd] = uint32(int32(int8(v)))
		case api.Lh:
			next.X[x.Rd] = uint32(int32(int16(v)))
		default:
			next.X[x.Rd] = v
		}
	} else {
		switch x.Op {
		case api.Jal:
			next.X[x.Rd], next.Pc = next.Pc, wrapped(int64(c.Pc)+int64(x.Imm))
		case api.Jalr:
			next.X[x.Rd], next.Pc = next.Pc, addr/2*2
		case api.Ecall:
			end = api.EndCall
		case api.Ebreak:
			return c, api.EndBreak
		}
	}
	next.X[0] = 0
	return next, end
}

// modelRun is P4.3 a second time.
func modelRun(c api.Cpu, b bytesAt, answers []uint32, fuel int) (api.Cpu, []api.Call, int, int) {
	var calls []api.Call
	steps, used := 0, 0
	c.X[0] = 0
	for {
		if steps >= fuel {
			return c, calls, api.EndFuel, steps
		}
		end := 0
		c, end = modelStep(c, b)
		steps++
		switch {
		case end == api.EndCall:
			calls = append(calls, api.Call{A: [8]uint32(c.X[10:18])})
			if used == len(answers) {
				return c, calls, end, steps
			}
			c.X[10] = answers[used]
			used++
		case end != api.EndNone:
			return c, calls, end, steps
		}
	}
}

// dice are numbers in a fixed order that looks like none.
type dice uint32

func (d *dice) word() uint32 {
	a := d.next()
	return a<<16 ^ d.next()
}

func (d *dice) next() uint32 {
	*d = *d*1664525 + 1013904223
	return uint32(*d) >> 8
}

func (d *dice) below(n int) int { return int(d.next()) % n }

// edgeWords are words at the edges, and some without a shape.
func edgeWords() []uint32 {
	l := []uint32{0, 1, 2, 5, 31, 32, 33, 64, 0x7ff, 0x800, 0x12345678, 0x7ffffffe, 0x7fffffff, 0x80000000, 0x80000001, 0xdeadbeef, 0xfffff800, 0xfffffff9, 0xfffffffe, last}
	d := dice(9)
	for range 6 {
		l = append(l, d.word())
	}
	return l
}

// registers are 32 words of which no two are the same, the first one 0.
func registers() [32]uint32 {
	var x [32]uint32
	for k := range uint32(31) {
		x[k+1] = 0x01010101 * (k + 17)
	}
	return x
}

// numberOf is some right number of a kind.
func numberOf(d *dice, op int) int {
	switch inst.Form(op) {
	case 'U':
		return int(d.word() >> 12)
	case 'J':
		return (d.below(1<<20) - 1<<19) * 2
	case 'B':
		return (d.below(1<<12) - 1<<11) * 2
	case 'H':
		return d.below(32)
	case 'I', 'S':
		return d.below(1<<12) - 1<<11
	}
	return 0
}

// made is an instruction of a kind with registers and a number, as far as its form has them.
func made(op, rd, rs1, rs2, number int) api.Inst {
	switch inst.Form(op) {
	case 'U', 'J':
		return api.Inst{Op: op, Rd: rd, Imm: number}
	case 'I', 'H':
		return api.Inst{Op: op, Rd: rd, Rs1: rs1, Imm: number}
	case 'B', 'S':
		return api.Inst{Op: op, Rs1: rs1, Rs2: rs2, Imm: number}
	case 'R':
		return api.Inst{Op: op, Rd: rd, Rs1: rs1, Rs2: rs2}
	}
	return api.Inst{Op: op}
}

// wordOf is a right instruction's word.
func wordOf(t *testing.T, x api.Inst) uint32 {
	t.Helper()
	w, e := inst.Encode(x)
	if e != api.OK {
		t.Fatalf("%v is not right", x)
	}
	return w
}

// laid is a memory with instructions from an address on.
func laid(t *testing.T, from uint32, l ...api.Inst) *mem.Mem {
	t.Helper()
	m := mem.New()
	for k, x := range l {
		m.Store(from+4*uint32(k), 4, wordOf(t, x))
	}
	return m
}
