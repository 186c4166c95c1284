package asm

import (
	"math"
	"strings"
	"testing"

	"whetstone/api"
)

// same fails unless x has the text s, and s is of x.
func same(t *testing.T, x api.Inst, s string) {
	t.Helper()
	if u, e := Print(x); u != s || e != api.OK {
		t.Fatalf("Print(%+v) = %q, %v; the text is %q", x, u, e, s)
	}
	if y, e := Parse(s); y != x || e != api.OK {
		t.Fatalf("Parse(%q) = %+v, %v; the instruction is %+v", s, y, e, x)
	}
}

// noText fails unless s is no instruction's text.
func noText(t *testing.T, s string) {
	t.Helper()
	if x, e := Parse(s); x != (api.Inst{}) || e != api.ErrAsmForm {
		t.Errorf("Parse(%.80q) = %+v, %v", s, x, e)
	}
}

// asMeant fails unless Parse answers what the patterns do.
func asMeant(t *testing.T, s string) {
	t.Helper()
	want, is := meant(s)
	no := api.ErrAsmForm
	if is {
		no = api.OK
	}
	if x, e := Parse(s); x != want || e != no {
		t.Fatalf("Parse(%q) = %+v, %v; want %+v, %v", s, x, e, want, no)
	}
}

// P5.1: Name, By

func TestNameOfEachKind(t *testing.T) {
	l := rows()
	if len(l) != api.Ops {
		t.Fatal(len(l))
	}
	for _, r := range l {
		if n := Name(r.op); n != r.name {
			t.Errorf("Name(%d) = %q, not %q", r.op, n, r.name)
		}
		if op := By(r.name); op != r.op {
			t.Errorf("By(%q) = %d, not %d", r.name, op, r.op)
		}
	}
}

func TestNameOfNoKind(t *testing.T) {
	for _, op := range []int{-1, -2, -api.Ops, math.MinInt, api.Ops, api.Ops + 1, 256, 1 << 32, 1<<32 + 1, math.MaxInt} {
		if n := Name(op); n != "" {
			t.Errorf("Name(%d) = %q", op, n)
		}
	}
}

func TestByOfNoName(t *testing.T) {
	l := []string{"", " ", "\x00", "\n", "x", "x1", "nop", "li", "mv", "j", "ret", "fence", "call", "a", "ad", "mulhs", "Ops", "ebrea", "l\u00fc", "ſub", "\xff", strings.Repeat("add", 1000)}
	is := map[string]bool{}
	for _, r := range rows() {
		is[r.name] = true
	}
	for n := range is {
		great := strings.ToUpper(n)
		for _, s := range []string{great, great[:1] + n[1:], n[:1] + great[1:], n + " ", " " + n, n + "\n", n + "\x00", n + "x", n + "i", n + "u", n + " x1", n + n, n[1:], n[:len(n)-1]} {
			if !is[s] {
				l = append(l, s)
			}
		}
	}
	for _, s := range l {
		if op := By(s); op != -1 {
			t.Errorf("By(%.40q) = %d", s, op)
		}
	}
}

// P5.1: Print, Parse

func TestExamples(t *testing.T) {
	for s, x := range map[string]api.Inst{
		"addi x1, x2, -5":    {Op: api.Addi, Rd: 1, Rs1: 2, Imm: -5},
		"sw x1, -4(x2)":      {Op: api.Sw, Rs1: 2, Rs2: 1, Imm: -4},
		"lui x1, 1048575":    {Op: api.Lui, Rd: 1, Imm: 1048575},
		"auipc x0, 0":        {Op: api.Auipc},
		"jal x1, -1048576":   {Op: api.Jal, Rd: 1, Imm: -1048576},
		"jal x31, 1048574":   {Op: api.Jal, Rd: 31, Imm: 1048574},
		"jalr x0, 0(x1)":     {Op: api.Jalr, Rs1: 1},
		"beq x1, x2, -4096":  {Op: api.Beq, Rs1: 1, Rs2: 2, Imm: -4096},
		"bgeu x31, x0, 4094": {Op: api.Bgeu, Rs1: 31, Imm: 4094},
		"lw x9, -2048(x10)":  {Op: api.Lw, Rd: 9, Rs1: 10, Imm: -2048},
		"lbu x10, 2047(x9)":  {Op: api.Lbu, Rd: 10, Rs1: 9, Imm: 2047},
		"sb x0, 0(x31)":      {Op: api.Sb, Rs1: 31},
		"sltiu x3, x4, 2047": {Op: api.Sltiu, Rd: 3, Rs1: 4, Imm: 2047},
		"srai x3, x4, 31":    {Op: api.Srai, Rd: 3, Rs1: 4, Imm: 31},
		"sub x10, x20, x30":  {Op: api.Sub, Rd: 10, Rs1: 20, Rs2: 30},
		"remu x1, x2, x3":    {Op: api.Remu, Rd: 1, Rs1: 2, Rs2: 3},
		"ecall":              {Op: api.Ecall},
		"ebreak":             {Op: api.Ebreak},
	} {
		same(t, x, s)
	}
	noText(t, "add x1, x2, x03")
}

func TestEachKindWithEdgeRegistersAndNumbers(t *testing.T) {
	regs := []int{0, 1, 9, 10, 19, 20, 31}
	for _, r := range rows() {
		for _, a := range regs {
			for _, b := range regs {
				for _, c := range regs {
					for _, n := range sampleNumbers(r) {
						x := made(r, a, b, c, n)
						same(t, x, written(r, x))
					}
				}
			}
		}
	}
}

func TestEachRegisterAtEachPart(t *testing.T) {
	for _, r := range rows() {
		for k := range 32 {
			for _, x := range []api.Inst{made(r, k, 1, 2, 0), made(r, 1, k, 2, 0), made(r, 1, 2, k, 0), made(r, k, k, k, 0)} {
				same(t, x, written(r, x))
			}
		}
	}
}

// One kind of each row goes through all of its numbers.
func TestEachNumberOfEachRow(t *testing.T) {
	done := map[string]bool{}
	for _, r := range rows() {
		if done[r.row] || !hasNumber(r) {
			continue
		}
		done[r.row] = true
		s := spanOf(r.row)
		for n := s.least; n <= s.great; n += s.step {
			x := made(r, 5, 6, 7, n)
			same(t, x, written(r, x))
		}
	}
}

func TestPrintOfWhatIsNotRight(t *testing.T) {
	l := []api.Inst{{Op: -1}, {Op: api.Ops}, {Op: math.MinInt}, {Op: math.MaxInt}, {Op: 1 << 32}}
	for _, r := range rows() {
		s := spanOf(r.row)
		for _, n := range []int{s.least - 1, s.great + 1, math.MinInt, math.MaxInt, 1 << 32} {
			l = append(l, api.Inst{Op: r.op, Imm: n})
		}
		if s.step == 2 {
			l = append(l, api.Inst{Op: r.op, Imm: 1}, api.Inst{Op: r.op, Imm: -3})
		}
		for _, k := range []int{-1, 32, math.MinInt, math.MaxInt, 1 << 32} {
			l = append(l, api.Inst{Op: r.op, Rd: k}, api.Inst{Op: r.op, Rs1: k}, api.Inst{Op: r.op, Rs2: k})
		}
		full := made(r, 1, 1, 1, 0)
		for _, x := range []api.Inst{{Op: r.op, Rd: 1 - full.Rd}, {Op: r.op, Rs1: 1 - full.Rs1}, {Op: r.op, Rs2: 1 - full.Rs2}} {
			if x != (api.Inst{Op: r.op}) {
				l = append(l, x)
			}
		}
	}
	for _, x := range l {
		if s, e := Print(x); s != "" || e != api.ErrInstForm {
			t.Errorf("Print(%+v) = %q, %v", x, s, e)
		}
		if s, e := Lines([]api.Inst{x}); s != "" || e != api.ErrInstForm {
			t.Errorf("Lines of %+v = %q, %v", x, s, e)
		}
	}
}

func TestParseOfNoText(t *testing.T) {
	for _, s := range []string{
		"", " ", "\n", "\x00", "x1", "nop", "add", "add ", "lui", "sw", "jalr", " ecall", "ecall ", "ecall x0", "ecall 0", "ecallx", "ebreak\n", "ECALL", "Ebreak",
		"add x1, x2", "add x1, x2, ", "add x1, x2,", "add x1, x2, x3, x4", "add x1, x2, x3,", "add x1, x2, x3 ", "add x1, x2, x3\n", "add x1, x2, x3\x00", "add x1, x2, x3 x", " add x1, x2, x3",
		"add  x1, x2, x3", "add x1,  x2, x3", "add x1,x2,x3", "add x1 , x2, x3", "add x1 x2 x3", "add\tx1, x2, x3", "add x1,\tx2, x3", "addx1, x2, x3", "add, x1, x2, x3",
		"ADD x1, x2, x3", "Add x1, x2, x3", "add X1, x2, x3", "add 1, 2, 3", "add x1, x2, 3", "add x1, x2, x", "add x, x2, x3", "add x1, x2, xx3", "add x1, x2, x 3",
		"add x1, x2, x03", "add x00, x2, x3", "add x1, x2, x32", "add x1, x2, x99", "add x1, x2, x100", "add x1, x2, x-1", "add x-0, x2, x3", "add x1, x2, x+3", "add x1, x2, x99999999999999999999999",
		"add ra, sp, gp", "add x1, x2, x3 # more", "add x1, x2, x1.", "add x1, x2, x0x3", "add x1, x2, x٣", "add x1, x2, x\xef\xbc\x93",
		"addi x1, x2", "addi x1, x2, x3", "addi x1, x2, +5", "addi x1, x2, 05", "addi x1, x2, -05", "addi x1, x2, 00", "addi x1, x2, -0", "addi x1, x2, +0", "addi x1, x2, --5", "addi x1, x2, - 5", "addi x1, x2, -", "addi x1, x2, 5-", "addi x1, x2, 0x5", "addi x1, x2, 5_0", "addi x1, x2, 5.0", "addi x1, x2, 5e1", "addi x1, x2, 1 0", "addi x1, x2, 2048", "addi x1, x2, -2049", "addi x1, x2, −5", "addi x1, x2, 5(x2)", "addi x1, 5(x2)",
		"slli x1, x2, 32", "slli x1, x2, -1", "slli x1, x2, x3", "lui x1, -1", "lui x1, 1048576", "lui x1, x2, 3", "lui x1", "lui 1, 1", "auipc x1, 01",
		"beq x1, x2, 3", "beq x1, x2, -3", "beq x1, x2, 4095", "beq x1, x2, 4096", "beq x1, x2, -4098", "beq x1, x2", "beq x1, 4(x2)", "jal x1, 1", "jal x1, 1048576", "jal x1, -1048578", "jal 4", "jal x1, x2",
		"lw x1, 4(x2", "lw x1, (x2)", "lw x1, x2, 4", "lw x1, 4 (x2)", "lw x1, 4( x2)", "lw x1, 4(x2 )", "lw x1, 4(x2) ", "lw x1, 4(x2))", "lw x1, 4((x2))", "lw x1, 4[x2]", "lw x1, 4(2)", "lw x1, 4x2)", "lw x1, 4)x2(", "lw x1, 4", "lw x1, 2048(x2)", "lw x1, -2049(x2)", "lw x1, -0(x2)", "lw x1, 04(x2)", "lw x1, +4(x2)", "lw x1, 4(x32)", "lw x1, 4(x02)", "jalr x1, x2, 4", "jalr x1, 4(x2", "jalr x1",
		"sw x1, x2, 4", "sw x1, 4(x2", "sw x1, (x2)", "sw x1, 2048(x2)", "sw x1, -2049(x2)", "sw 4(x2), x1", "sw x1, -0(x2)", "sw x32, 0(x2)",
	} {
		noText(t, s)
	}
}

func TestParseOfNumbersOfManyDigits(t *testing.T) {
	for _, n := range []int{10, 19, 20, 21, 39, 100, 10000, 1 << 20} {
		for _, d := range []string{"1", "9", "0"} {
			digits := strings.Repeat(d, n)
			for _, s := range []string{digits, "-" + digits, digits + "5", "1" + digits} {
				noText(t, "addi x1, x2, "+s)
				noText(t, "lui x1, "+s)
				noText(t, "jal x1, "+s)
				noText(t, "lw x1, "+s+"(x2)")
				noText(t, "add x1, x2, x"+s)
				noText(t, "add x"+s+", x2, x3")
			}
		}
	}
	// Those that are right ones again when they wrap round at 2^32, 2^64 and 2^128.
	for _, s := range []string{"4294967296", "4294967301", "-4294967291", "9223372036854775807", "9223372036854775808", "-9223372036854775808", "-9223372036854775809", "18446744073709551616", "18446744073709551620", "-18446744073709551612", "340282366920938463463374607431768211458"} {
		for _, head := range []string{"addi x1, x2, ", "lui x1, ", "jal x1, ", "beq x1, x2, ", "slli x1, x2, ", "add x1, x2, x"} {
			noText(t, head+s)
		}
		noText(t, "sw x1, "+s+"(x2)")
		noText(t, "lw x1, 0(x"+s+")")
	}
}

func TestParseOfMuchBetween(t *testing.T) {
	for _, s := range []string{" ", ",", ", ", "x", "(", "\n", "\x00", "-", "x1, "} {
		much := strings.Repeat(s, 100000)
		for _, r := range rows() {
			w := written(r, made(r, 1, 2, 3, 0))
			noText(t, much+w)
			noText(t, w+much)
			noText(t, r.name+much)
			noText(t, r.name+" "+much+strings.TrimPrefix(w, r.name))
		}
	}
}

// Each text with one byte less, one more, or another one.
func TestParseOfTextsWithOneByteChanged(t *testing.T) {
	const bytes = " ,x()-+0123459aluiA\n\r\t\x00\x80_."
	for _, r := range rows() {
		for _, x := range []api.Inst{made(r, 1, 2, 3, 4), made(r, 31, 10, 0, spanOf(r.row).least), made(r, 0, 0, 20, 0), made(r, 3, 30, 9, spanOf(r.row).great)} {
			s := written(r, x)
			for i := range len(s) + 1 {
				if i < len(s) {
					asMeant(t, s[:i]+s[i+1:])
					asMeant(t, s[:i])
					asMeant(t, s[i:])
				}
				for _, b := range []byte(bytes) {
					asMeant(t, s[:i]+string([]byte{b})+s[i:])
					if i < len(s) {
						asMeant(t, s[:i]+string([]byte{b})+s[i+1:])
					}
				}
			}
		}
	}
}

// Each kind's name with what stands behind each other kind's.
func TestParseOfNamesWithOtherParts(t *testing.T) {
	for _, r := range rows() {
		for _, o := range rows() {
			for _, n := range sampleNumbers(o) {
				s := written(o, made(o, 1, 2, 3, n))
				asMeant(t, r.name+strings.TrimPrefix(s, o.name))
			}
		}
	}
}

// Pieces of texts, laid one behind the other without a rule.
func TestParseOfPiecesWithoutARule(t *testing.T) {
	pieces := []string{"x1", "x31", "x32", "x", ", ", ",", " ", "0", "4", "-4", "-", "05", "(x2)", "(", ")", "2047", "2048"}
	d := uint32(7)
	next := func(n int) int {
		d = d*1664525 + 1013904223
		return int(d>>8) % n
	}
	l := rows()
	for range 200000 {
		s := l[next(len(l))].name + " "
		for range next(7) {
			s += pieces[next(len(pieces))]
		}
		asMeant(t, s)
	}
}

// P5.3

func TestNoTwoInstructionsHaveOneText(t *testing.T) {
	of := map[string]api.Inst{}
	for _, r := range rows() {
		for _, a := range []int{0, 1, 2, 11, 21} {
			for _, b := range []int{0, 1, 2, 11, 12} {
				for _, c := range []int{0, 1, 3, 11, 31} {
					for _, n := range sampleNumbers(r) {
						x := made(r, a, b, c, n)
						s, _ := Print(x)
						if y, is := of[s]; is && y != x {
							t.Fatalf("%q: %+v and %+v", s, x, y)
						}
						of[s] = x
					}
				}
			}
		}
	}
}
