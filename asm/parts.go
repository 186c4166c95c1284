package asm

import (
	"strconv"
	"strings"

	"whetstone/api"
	"whetstone/inst"
)

var names = [api.Ops]string{
	api.Lui:    "lui",
	api.Auipc:  "auipc",
	api.Jal:    "jal",
	api.Jalr:   "jalr",
	api.Beq:    "beq",
	api.Bne:    "bne",
	api.Blt:    "blt",
	api.Bge:    "bge",
	api.Bltu:   "bltu",
	api.Bgeu:   "bgeu",
	api.Lb:     "lb",
	api.Lh:     "lh",
	api.Lw:     "lw",
	api.Lbu:    "lbu",
	api.Lhu:    "lhu",
	api.Sb:     "sb",
	api.Sh:     "sh",
	api.Sw:     "sw",
	api.Addi:   "addi",
	api.Slti:   "slti",
	api.Sltiu:  "sltiu",
	api.Xori:   "xori",
	api.Ori:    "ori",
	api.Andi:   "andi",
	api.Slli:   "slli",
	api.Srli:   "srli",
	api.Srai:   "srai",
	api.Add:    "add",
	api.Sub:    "sub",
	api.Sll:    "sll",
	api.Slt:    "slt",
	api.Sltu:   "sltu",
	api.Xor:    "xor",
	api.Srl:    "srl",
	api.Sra:    "sra",
	api.Or:     "or",
	api.And:    "and",
	api.Mul:    "mul",
	api.Mulh:   "mulh",
	api.Mulhsu: "mulhsu",
	api.Mulhu:  "mulhu",
	api.Div:    "div",
	api.Divu:   "divu",
	api.Rem:    "rem",
	api.Remu:   "remu",
	api.Ecall:  "ecall",
	api.Ebreak: "ebreak",
}

// shape is a kind's form, but 'M' of those of the form I whose text has a
// register in brackets: that form alone has two texts.
func shape(op int) byte {
	switch op {
	case api.Jalr, api.Lb, api.Lh, api.Lw, api.Lbu, api.Lhu:
		return 'M'
	}
	return inst.Form(op)
}

// printed is a right instruction's text.
func printed(x api.Inst) string {
	name := Name(x.Op)
	switch shape(x.Op) {
	case 'U', 'J':
		return text(name, register(x.Rd), number(x.Imm))
	case 'R':
		return text(name, register(x.Rd), register(x.Rs1), register(x.Rs2))
	case 'B':
		return text(name, register(x.Rs1), register(x.Rs2), number(x.Imm))
	case 'S':
		return text(name, register(x.Rs2), place(x))
	case 'M':
		return text(name, register(x.Rd), place(x))
	case 'I', 'H':
		return text(name, register(x.Rd), register(x.Rs1), number(x.Imm))
	}
	return text(name)
}

// text is a name with its parts behind it, if it has some.
func text(name string, parts ...string) string {
	if len(parts) == 0 {
		return name
	}
	return name + " " + strings.Join(parts, ", ")
}

func register(r int) string { return "x" + number(r) }

func number(n int) string { return strconv.Itoa(n) }

// place is where an instruction loads, stores, or jumps to.
func place(x api.Inst) string { return number(x.Imm) + "(" + register(x.Rs1) + ")" }

// guessed is the one instruction of a kind that may have s behind its name: it
// need neither be right nor have that text.
func guessed(op int, s string) api.Inst {
	x := api.Inst{Op: op}
	switch shape(op) {
	case 'U', 'J':
		numbers(s, &x.Rd, &x.Imm)
	case 'R':
		numbers(s, &x.Rd, &x.Rs1, &x.Rs2)
	case 'B':
		numbers(s, &x.Rs1, &x.Rs2, &x.Imm)
	case 'S':
		numbers(s, &x.Rs2, &x.Imm, &x.Rs1)
	case 'M':
		numbers(s, &x.Rd, &x.Imm, &x.Rs1)
	case 'I', 'H':
		numbers(s, &x.Rd, &x.Rs1, &x.Imm)
	}
	return x
}

// numbers reads the first numbers of a text, whatever stands between them, up
// to one that lacks or is too great.
func numbers(s string, into ...*int) {
	for _, to := range into {
		from := strings.IndexAny(s, "-0123456789")
		if from < 0 {
			return
		}
		s = s[from:]
		end := 1
		for end < len(s) && s[end] >= '0' && s[end] <= '9' {
			end++
		}
		n, err := strconv.Atoi(s[:end])
		if err != nil {
			return
		}
		*to, s = n, s[end:]
	}
}
