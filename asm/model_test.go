package asm

import (
	"fmt"
	"math/big"
	"regexp"
	"strings"

	"whetstone/api"
)

// row is a kind, its name, and which row of the document's table its text is of; written apart from the program's own names.
type row struct {
	op   int
	name string
	row  string
}

func rows() []row {
	var l []row
	for _, g := range []struct {
		row, names string
		first      int
	}{
		{"U", "lui auipc", api.Lui},
		{"J", "jal", api.Jal},
		{"load", "jalr", api.Jalr},
		{"B", "beq bne blt bge bltu bgeu", api.Beq},
		{"load", "lb lh lw lbu lhu", api.Lb},
		{"S", "sb sh sw", api.Sb},
		{"I", "addi slti sltiu xori ori andi", api.Addi},
		{"H", "slli srli srai", api.Slli},
		{"R", "add sub sll slt sltu xor srl sra or and mul mulh mulhsu mulhu div divu rem remu", api.Add},
		{"E", "ecall ebreak", api.Ecall},
	} {
		for i, n := range strings.Fields(g.names) {
			l = append(l, row{g.first + i, n, g.row})
		}
	}
	return l
}

// span are a row's numbers: the least, the greatest, and the step between them.
type span struct{ least, great, step int }

func spanOf(r string) span {
	switch r {
	case "U":
		return span{0, 1048575, 1}
	case "J":
		return span{-1048576, 1048574, 2}
	case "B":
		return span{-4096, 4094, 2}
	case "load", "S", "I":
		return span{-2048, 2047, 1}
	case "H":
		return span{0, 31, 1}
	}
	return span{0, 0, 1}
}

func (s span) holds(n int) bool { return n >= s.least && n <= s.great && n%s.step == 0 }

func hasNumber(r row) bool { return r.row != "R" && r.row != "E" }

// written is an instruction's text, as the document's table shows it.
func written(r row, x api.Inst) string {
	switch r.row {
	case "U", "J":
		return fmt.Sprintf("%s x%d, %d", r.name, x.Rd, x.Imm)
	case "R":
		return fmt.Sprintf("%s x%d, x%d, x%d", r.name, x.Rd, x.Rs1, x.Rs2)
	case "B":
		return fmt.Sprintf("%s x%d, x%d, %d", r.name, x.Rs1, x.Rs2, x.Imm)
	case "S":
		return fmt.Sprintf("%s x%d, %d(x%d)", r.name, x.Rs2, x.Imm, x.Rs1)
	case "load":
		return fmt.Sprintf("%s x%d, %d(x%d)", r.name, x.Rd, x.Imm, x.Rs1)
	case "I", "H":
		return fmt.Sprintf("%s x%d, x%d, %d", r.name, x.Rd, x.Rs1, x.Imm)
	}
	return r.name
}

// made is an instruction of a kind with registers and a number; those that its row does not have are 0.
func made(r row, a, b, c, n int) api.Inst {
	x := api.Inst{Op: r.op}
	if hasNumber(r) {
		x.Imm = n
	}
	switch r.row {
	case "U", "J":
		x.Rd = a
	case "R":
		x.Rd, x.Rs1, x.Rs2 = a, b, c
	case "B", "S":
		x.Rs1, x.Rs2 = b, c
	case "load", "I", "H":
		x.Rd, x.Rs1 = a, b
	}
	return x
}

const (
	aRegister = `x(0|[1-9]|[12][0-9]|3[01])`
	aNumber   = `(0|-?[1-9][0-9]*)`
)

// pattern is what stands behind a row's name: the registers are told strictly, the numbers' spans are not.
func pattern(r string) *regexp.Regexp {
	switch r {
	case "U", "J":
		return regexp.MustCompile(`\A ` + aRegister + `, ` + aNumber + `\z`)
	case "R":
		return regexp.MustCompile(`\A ` + aRegister + `, ` + aRegister + `, ` + aRegister + `\z`)
	case "B", "I", "H":
		return regexp.MustCompile(`\A ` + aRegister + `, ` + aRegister + `, ` + aNumber + `\z`)
	case "S", "load":
		return regexp.MustCompile(`\A ` + aRegister + `, ` + aNumber + `\(` + aRegister + `\)\z`)
	}
	return regexp.MustCompile(`\A\z`)
}

var (
	allRows  = rows()
	patterns = func() map[string]*regexp.Regexp {
		m := map[string]*regexp.Regexp{}
		for _, r := range allRows {
			m[r.row] = pattern(r.row)
		}
		return m
	}()
)

// small is a number of any length, if it is one that a row may have.
func small(s string, of span) (int, bool) {
	n, _ := new(big.Int).SetString(s, 10)
	if !n.IsInt64() {
		return 0, false
	}
	return int(n.Int64()), of.holds(int(n.Int64()))
}

// meant is the instruction whose text s is, by the patterns.
func meant(s string) (api.Inst, bool) {
	for _, r := range allRows {
		behind, is := strings.CutPrefix(s, r.name)
		if !is {
			continue
		}
		m := patterns[r.row].FindStringSubmatch(behind)
		if m == nil {
			continue
		}
		v := make([]int, len(m)-1)
		ok := true
		for i, t := range m[1:] {
			in := span{0, 31, 1}
			if hasNumber(r) && i == numberAt(r) {
				in = spanOf(r.row)
			}
			n, fits := small(t, in)
			v[i], ok = n, ok && fits
		}
		if ok {
			return laid(r, v), true
		}
	}
	return api.Inst{}, false
}

// numberAt is which of a row's parts its number is.
func numberAt(r row) int {
	switch r.row {
	case "U", "J", "S", "load":
		return 1
	}
	return 2
}

// laid is an instruction of the parts of its text, in their order.
func laid(r row, v []int) api.Inst {
	switch r.row {
	case "U", "J":
		return api.Inst{Op: r.op, Rd: v[0], Imm: v[1]}
	case "R":
		return api.Inst{Op: r.op, Rd: v[0], Rs1: v[1], Rs2: v[2]}
	case "B":
		return api.Inst{Op: r.op, Rs1: v[0], Rs2: v[1], Imm: v[2]}
	case "S":
		return api.Inst{Op: r.op, Rs2: v[0], Imm: v[1], Rs1: v[2]}
	case "load":
		return api.Inst{Op: r.op, Rd: v[0], Imm: v[1], Rs1: v[2]}
	case "I", "H":
		return api.Inst{Op: r.op, Rd: v[0], Rs1: v[1], Imm: v[2]}
	}
	return api.Inst{Op: r.op}
}

// sampleNumbers are a row's numbers at its ends, about 0, and about powers of ten.
func sampleNumbers(r row) []int {
	s := spanOf(r.row)
	var l []int
	for _, n := range []int{s.least, s.least + s.step, s.great, s.great - s.step, 0, 1, 2, 9, 10, 11, 31, 99, 100, 101, 999, 1000, 99999, 100000, -1, -2, -5, -9, -10, -11, -99, -100, -1000, -100000} {
		if s.holds(n) {
			l = append(l, n)
		}
	}
	return l
}
