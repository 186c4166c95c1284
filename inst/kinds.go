package inst

import (
	"whetstone/api"
	"whetstone/word"
)

// kind is a kind's form and the bits that tell it. Of the form E, f7 is what
// the bits from 20 on are, since the whole word tells such an instruction.
type kind struct{ form, op, f3, f7 byte }

func kinds() [api.Ops]kind {
	return [api.Ops]kind{
		api.Lui:    {'U', 0x37, 0, 0},
		api.Auipc:  {'U', 0x17, 0, 0},
		api.Jal:    {'J', 0x6f, 0, 0},
		api.Jalr:   {'I', 0x67, 0, 0},
		api.Beq:    {'B', 0x63, 0, 0},
		api.Bne:    {'B', 0x63, 1, 0},
		api.Blt:    {'B', 0x63, 4, 0},
		api.Bge:    {'B', 0x63, 5, 0},
		api.Bltu:   {'B', 0x63, 6, 0},
		api.Bgeu:   {'B', 0x63, 7, 0},
		api.Lb:     {'I', 0x03, 0, 0},
		api.Lh:     {'I', 0x03, 1, 0},
		api.Lw:     {'I', 0x03, 2, 0},
		api.Lbu:    {'I', 0x03, 4, 0},
		api.Lhu:    {'I', 0x03, 5, 0},
		api.Sb:     {'S', 0x23, 0, 0},
		api.Sh:     {'S', 0x23, 1, 0},
		api.Sw:     {'S', 0x23, 2, 0},
		api.Addi:   {'I', 0x13, 0, 0},
		api.Slti:   {'I', 0x13, 2, 0},
		api.Sltiu:  {'I', 0x13, 3, 0},
		api.Xori:   {'I', 0x13, 4, 0},
		api.Ori:    {'I', 0x13, 6, 0},
		api.Andi:   {'I', 0x13, 7, 0},
		api.Slli:   {'H', 0x13, 1, 0x00},
		api.Srli:   {'H', 0x13, 5, 0x00},
		api.Srai:   {'H', 0x13, 5, 0x20},
		api.Add:    {'R', 0x33, 0, 0x00},
		api.Sub:    {'R', 0x33, 0, 0x20},
		api.Sll:    {'R', 0x33, 1, 0x00},
		api.Slt:    {'R', 0x33, 2, 0x00},
		api.Sltu:   {'R', 0x33, 3, 0x00},
		api.Xor:    {'R', 0x33, 4, 0x00},
		api.Srl:    {'R', 0x33, 5, 0x00},
		api.Sra:    {'R', 0x33, 5, 0x20},
		api.Or:     {'R', 0x33, 6, 0x00},
		api.And:    {'R', 0x33, 7, 0x00},
		api.Mul:    {'R', 0x33, 0, 0x01},
		api.Mulh:   {'R', 0x33, 1, 0x01},
		api.Mulhsu: {'R', 0x33, 2, 0x01},
		api.Mulhu:  {'R', 0x33, 3, 0x01},
		api.Div:    {'R', 0x33, 4, 0x01},
		api.Divu:   {'R', 0x33, 5, 0x01},
		api.Rem:    {'R', 0x33, 6, 0x01},
		api.Remu:   {'R', 0x33, 7, 0x01},
		api.Ecall:  {'E', 0x73, 0, 0},
		api.Ebreak: {'E', 0x73, 0, 1},
	}
}

// stem is a kind's word with all registers and the number 0.
func (k kind) stem() uint32 {
	high := 25
	if k.form == 'E' {
		high = 20
	}
	w := word.Put(uint32(k.op), 12, 3, uint32(k.f3))
	return word.Put(w, high, 32-high, uint32(k.f7))
}

// find is the kind of a word's instruction.
func find(w uint32) (int, bool) {
	low := byte(word.Field(w, 0, 7))
	f3 := byte(word.Field(w, 12, 3))
	f7 := byte(word.Field(w, 25, 7))
	for op, k := range kinds() {
		if k.op == low && k.told(w, f3, f7) {
			return op, true
		}
	}
	return 0, false
}

// told tells whether a word with a kind's op, and with these f3 and f7, is of
// that kind: where a form has a register or a number in their place, they tell nothing.
func (k kind) told(w uint32, f3, f7 byte) bool {
	switch k.form {
	case 'U', 'J':
		return true
	case 'I', 'B', 'S':
		return f3 == k.f3
	case 'H', 'R':
		return f3 == k.f3 && f7 == k.f7
	}
	return w == k.stem()
}
