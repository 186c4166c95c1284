package cpu

import (
	"whetstone/api"
	"whetstone/mem"
	"whetstone/word"
)

// number is an instruction's number as a word.
func number(x api.Inst) uint32 { return uint32(x.Imm) }

// set puts a word into a register; what is put into the first one is lost.
func set(c *api.Cpu, rd int, v uint32) {
	if rd != 0 {
		c.X[rd] = v
	}
}

// onward is a machine with a word in a register, at the instruction behind.
func onward(c api.Cpu, rd int, v uint32) api.Cpu {
	set(&c, rd, v)
	c.Pc += 4
	return c
}

// notPlain does a right instruction that is not a plain one.
func notPlain(c api.Cpu, m *mem.Mem, x api.Inst) (api.Cpu, int) {
	switch x.Op {
	case api.Jal:
		return jump(c, x.Rd, c.Pc+number(x)), api.EndNone
	case api.Jalr:
		return jump(c, x.Rd, (c.X[x.Rs1]+number(x))&^1), api.EndNone
	case api.Beq, api.Bne, api.Blt, api.Bge, api.Bltu, api.Bgeu:
		return branch(c, x), api.EndNone
	case api.Lb, api.Lh, api.Lw, api.Lbu, api.Lhu, api.Sb, api.Sh, api.Sw:
		return access(c, m, x)
	case api.Ecall:
		c.Pc += 4
		return c, api.EndCall
	}
	return c, api.EndBreak
}

// jump is given where it goes to, so that a register which is both read and
// written was read ahead.
func jump(c api.Cpu, rd int, to uint32) api.Cpu {
	set(&c, rd, c.Pc+4)
	c.Pc = to
	return c
}

func branch(c api.Cpu, x api.Inst) api.Cpu {
	if taken(x.Op, c.X[x.Rs1], c.X[x.Rs2]) {
		c.Pc += number(x)
	} else {
		c.Pc += 4
	}
	return c
}

// taken tells whether a branch goes where it says, of two words.
func taken(op int, a, b uint32) bool {
	switch op {
	case api.Beq:
		return a == b
	case api.Bne:
		return a != b
	case api.Blt:
		return int32(a) < int32(b)
	case api.Bge:
		return int32(a) >= int32(b)
	case api.Bltu:
		return a < b
	}
	return a >= b
}

// access does a load or a store.
func access(c api.Cpu, m *mem.Mem, x api.Inst) (api.Cpu, int) {
	addr := c.X[x.Rs1] + number(x)
	n, sign := width(x.Op)
	if addr%uint32(n) != 0 {
		return c, api.EndAccess
	}
	switch x.Op {
	case api.Sb, api.Sh, api.Sw:
		m.Store(addr, n, c.X[x.Rs2])
		c.Pc += 4
		return c, api.EndNone
	}
	v, _ := m.Load(addr, n)
	return onward(c, x.Rd, word.Sign(v, sign)), api.EndNone
}

// width is how many bytes a load or a store takes, and how many bits its
// number has with its sign: all 32 of one without.
func width(op int) (int, int) {
	n, sign := 4, 32
	switch op {
	case api.Lb:
		sign = 8
		fallthrough
	case api.Lbu, api.Sb:
		n = 1
	case api.Lh:
		sign = 16
		fallthrough
	case api.Lhu, api.Sh:
		n = 2
	}
	return n, sign
}

// called is what the outside is asked.
func called(c *api.Cpu) api.Call {
	var k api.Call
	copy(k.A[:], c.X[10:18])
	return k
}
