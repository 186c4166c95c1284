package inst

import (
	"math"
	"testing"

	"whetstone/api"
)

// shape is what a kind's words have in common: the bits under mask are those of match.
type shape struct {
	op          int
	form        byte
	match, mask uint32
}

// shapes are written apart from the program's own table, as whole words.
func shapes() []shape {
	const one, three, all = 0x7f, 0x707f, 0xfe00707f
	return []shape{
		{api.Lui, 'U', 0x00000037, one}, {api.Auipc, 'U', 0x00000017, one},
		{api.Jal, 'J', 0x0000006f, one}, {api.Jalr, 'I', 0x00000067, three},
		{api.Beq, 'B', 0x00000063, three}, {api.Bne, 'B', 0x00001063, three}, {api.Blt, 'B', 0x00004063, three},
		{api.Bge, 'B', 0x00005063, three}, {api.Bltu, 'B', 0x00006063, three}, {api.Bgeu, 'B', 0x00007063, three},
		{api.Lb, 'I', 0x00000003, three}, {api.Lh, 'I', 0x00001003, three}, {api.Lw, 'I', 0x00002003, three},
		{api.Lbu, 'I', 0x00004003, three}, {api.Lhu, 'I', 0x00005003, three},
		{api.Sb, 'S', 0x00000023, three}, {api.Sh, 'S', 0x00001023, three}, {api.Sw, 'S', 0x00002023, three},
		{api.Addi, 'I', 0x00000013, three}, {api.Slti, 'I', 0x00002013, three}, {api.Sltiu, 'I', 0x00003013, three},
		{api.Xori, 'I', 0x00004013, three}, {api.Ori, 'I', 0x00006013, three}, {api.Andi, 'I', 0x00007013, three},
		{api.Slli, 'H', 0x00001013, all}, {api.Srli, 'H', 0x00005013, all}, {api.Srai, 'H', 0x40005013, all},
		{api.Add, 'R', 0x00000033, all}, {api.Sub, 'R', 0x40000033, all}, {api.Sll, 'R', 0x00001033, all},
		{api.Slt, 'R', 0x00002033, all}, {api.Sltu, 'R', 0x00003033, all}, {api.Xor, 'R', 0x00004033, all},
		{api.Srl, 'R', 0x00005033, all}, {api.Sra, 'R', 0x40005033, all}, {api.Or, 'R', 0x00006033, all},
		{api.And, 'R', 0x00007033, all},
		{api.Mul, 'R', 0x02000033, all}, {api.Mulh, 'R', 0x02001033, all}, {api.Mulhsu, 'R', 0x02002033, all},
		{api.Mulhu, 'R', 0x02003033, all}, {api.Div, 'R', 0x02004033, all}, {api.Divu, 'R', 0x02005033, all},
		{api.Rem, 'R', 0x02006033, all}, {api.Remu, 'R', 0x02007033, all},
		{api.Ecall, 'E', 0x00000073, 0xffffffff}, {api.Ebreak, 'E', 0x00100073, 0xffffffff},
	}
}

// formOf are what a form has and the numbers that it tells, as the document's words say.
type formOf struct {
	rd, rs1, rs2       bool
	least, great, step int
}

func forms() map[byte]formOf {
	return map[byte]formOf{
		'U': {true, false, false, 0, 1048575, 1},
		'J': {true, false, false, -1048576, 1048574, 2},
		'I': {true, true, false, -2048, 2047, 1},
		'B': {false, true, true, -4096, 4094, 2},
		'S': {false, true, true, -2048, 2047, 1},
		'H': {true, true, false, 0, 31, 1},
		'R': {true, true, true, 0, 0, 1},
		'E': {false, false, false, 0, 0, 1},
	}
}

// bitPlaces tells of each bit of a form's number, from 0 on, which bit of the word it is; -1 is none.
func bitPlaces(form byte) []int {
	switch form {
	case 'U':
		return []int{12, 13, 14, 15, 16, 17, 18, 19, 20, 21, 22, 23, 24, 25, 26, 27, 28, 29, 30, 31}
	case 'J':
		return []int{-1, 21, 22, 23, 24, 25, 26, 27, 28, 29, 30, 20, 12, 13, 14, 15, 16, 17, 18, 19, 31}
	case 'I':
		return []int{20, 21, 22, 23, 24, 25, 26, 27, 28, 29, 30, 31}
	case 'B':
		return []int{-1, 8, 9, 10, 11, 25, 26, 27, 28, 29, 30, 7, 31}
	case 'S':
		return []int{7, 8, 9, 10, 11, 25, 26, 27, 28, 29, 30, 31}
	case 'H':
		return []int{20, 21, 22, 23, 24}
	}
	return nil
}

// wordOf lays an instruction's word bit by bit.
func wordOf(s shape, x api.Inst) uint32 {
	w := s.match | uint32(x.Rd)<<7 | uint32(x.Rs1)<<15 | uint32(x.Rs2)<<20
	for k, at := range bitPlaces(s.form) {
		if at >= 0 {
			w |= uint32(x.Imm) >> k & 1 << at
		}
	}
	return w
}

// sampleRegs are registers for what a form has; 0 alone for what it has not.
func sampleRegs(has bool) []int {
	if !has {
		return []int{0}
	}
	return []int{0, 1, 2, 10, 16, 21, 31}
}

// sampleNumbers are a form's numbers at its ends, about 0, and of one bit each.
func sampleNumbers(f formOf) []int {
	l := []int{}
	add := func(n int) {
		if n >= f.least && n <= f.great && n%f.step == 0 {
			l = append(l, n)
		}
	}
	for _, n := range []int{f.least, f.least + 1, f.least + 2, f.great, f.great - 1, f.great - 2, 0, 1, 3, 5, -1, -2, -3, -5, 1364, 682, -1366} {
		add(n)
	}
	for k := range 21 {
		add(1 << k)
		add(-1 << k)
	}
	return l
}

func check(t *testing.T, s shape, x api.Inst) {
	t.Helper()
	w := wordOf(s, x)
	if !Right(x) {
		t.Fatalf("%+v is not right", x)
	}
	if v, e := Encode(x); v != w || e != api.OK {
		t.Fatalf("%+v: %08x, %v; the word is %08x", x, v, e, w)
	}
	if y, e := Decode(w); y != x || e != api.OK {
		t.Fatalf("%08x: %+v, %v; the instruction is %+v", w, y, e, x)
	}
}

// P2.1

func TestFormOfEachKindAndOfNone(t *testing.T) {
	l := shapes()
	if len(l) != api.Ops {
		t.Fatal(len(l))
	}
	for _, s := range l {
		if f := Form(s.op); f != s.form {
			t.Errorf("Form(%d) = %q, not %q", s.op, f, s.form)
		}
	}
	for _, op := range []int{-1, -2, -api.Ops, math.MinInt, api.Ops, api.Ops + 1, 256, 1 << 32, math.MaxInt} {
		if f := Form(op); f != 0 {
			t.Errorf("Form(%d) = %q", op, f)
		}
	}
}

func TestRightRegisters(t *testing.T) {
	for _, s := range shapes() {
		f := forms()[s.form]
		for r := -2; r <= 34; r++ {
			in := r >= 0 && r <= 31
			none := r == 0
			for k, there := range []bool{f.rd, f.rs1, f.rs2} {
				x := api.Inst{Op: s.op}
				*[]*int{&x.Rd, &x.Rs1, &x.Rs2}[k] = r
				if want := there && in || none; Right(x) != want {
					t.Errorf("%+v: %v", x, !want)
				}
			}
		}
	}
}

func TestRightRegistersFarOff(t *testing.T) {
	for _, s := range shapes() {
		for _, r := range []int{math.MinInt, -1 << 32, -32, 32, 64, 256, 1 << 32, 1<<32 + 1, math.MaxInt} {
			for _, x := range []api.Inst{{Op: s.op, Rd: r}, {Op: s.op, Rs1: r}, {Op: s.op, Rs2: r}} {
				if Right(x) {
					t.Errorf("%+v", x)
				}
			}
		}
	}
}

func TestRightNumbers(t *testing.T) {
	for _, s := range shapes() {
		f := forms()[s.form]
		l := []int{math.MinInt, math.MinInt + 1, -1 << 32, 1 << 31, 1 << 32, 1<<32 + 2, math.MaxInt - 1, math.MaxInt}
		for d := -5; d <= 5; d++ {
			l = append(l, d, f.least+d, f.great+d, 31+d)
		}
		for k := range 34 {
			l = append(l, 1<<k, -1<<k)
		}
		for _, n := range l {
			want := n >= f.least && n <= f.great && n%f.step == 0
			if x := (api.Inst{Op: s.op, Imm: n}); Right(x) != want {
				t.Errorf("%+v: %v", x, !want)
			}
		}
	}
}

func TestRightNeedsAKind(t *testing.T) {
	for _, op := range []int{-1, math.MinInt, api.Ops, api.Ops + 1, 1 << 32, math.MaxInt} {
		x := api.Inst{Op: op}
		if Right(x) {
			t.Errorf("%+v", x)
		}
		if w, e := Encode(x); w != 0 || e != api.ErrInstForm {
			t.Errorf("%+v: %08x, %v", x, w, e)
		}
	}
}

// P2.2, P2.4

func TestEachKindThereAndBack(t *testing.T) {
	for _, s := range shapes() {
		f := forms()[s.form]
		for _, rd := range sampleRegs(f.rd) {
			for _, rs1 := range sampleRegs(f.rs1) {
				for _, rs2 := range sampleRegs(f.rs2) {
					for _, n := range sampleNumbers(f) {
						check(t, s, api.Inst{Op: s.op, Rd: rd, Rs1: rs1, Rs2: rs2, Imm: n})
					}
				}
			}
		}
	}
}

func TestEachRegisterThereAndBack(t *testing.T) {
	for _, s := range shapes() {
		f := forms()[s.form]
		for r := range 32 {
			if f.rd {
				check(t, s, api.Inst{Op: s.op, Rd: r})
			}
			if f.rs1 {
				check(t, s, api.Inst{Op: s.op, Rs1: r})
			}
			if f.rs2 {
				check(t, s, api.Inst{Op: s.op, Rs2: r})
			}
		}
	}
}

// One kind of each form that has a number goes through all of its numbers.
func TestEachNumberThereAndBack(t *testing.T) {
	done := map[byte]bool{}
	for _, s := range shapes() {
		f := forms()[s.form]
		if done[s.form] {
			continue
		}
		done[s.form] = true
		for n := f.least; n <= f.great; n += f.step {
			check(t, s, api.Inst{Op: s.op, Imm: n})
		}
	}
}

func TestEncodeOfWhatIsNotRight(t *testing.T) {
	for _, s := range shapes() {
		f := forms()[s.form]
		l := []api.Inst{{Imm: f.least - 1}, {Imm: f.least - f.step}, {Imm: f.great + 1}, {Imm: f.great + f.step}, {Imm: math.MinInt}, {Imm: math.MaxInt}, {Rd: -1}, {Rd: 32}, {Rs1: -1}, {Rs1: 32}, {Rs2: -1}, {Rs2: 32}}
		if f.step == 2 {
			l = append(l, api.Inst{Imm: 1}, api.Inst{Imm: -1}, api.Inst{Imm: 7})
		}
		if !f.rd {
			l = append(l, api.Inst{Rd: 1})
		}
		if !f.rs1 {
			l = append(l, api.Inst{Rs1: 1})
		}
		if !f.rs2 {
			l = append(l, api.Inst{Rs2: 1})
		}
		for _, x := range l {
			x.Op = s.op
			if w, e := Encode(x); Right(x) || w != 0 || e != api.ErrInstForm {
				t.Errorf("%+v: %08x, %v", x, w, e)
			}
		}
	}
}

var allShapes = shapes()

// shapeOf is the shape of a word, if it has one.
func shapeOf(w uint32) (shape, bool) {
	for _, s := range allShapes {
		if w&s.mask == s.match {
			return s, true
		}
	}
	return shape{}, false
}

func checkWord(t *testing.T, w uint32) {
	t.Helper()
	x, e := Decode(w)
	s, is := shapeOf(w)
	if !is {
		if x != (api.Inst{}) || e != api.ErrInstForm {
			t.Fatalf("%08x: %+v, %v; it is no instruction's", w, x, e)
		}
		return
	}
	if e != api.OK || x.Op != s.op || !Right(x) {
		t.Fatalf("%08x: %+v, %v; it is one of the kind %d", w, x, e, s.op)
	}
	if v, e := Encode(x); v != w || e != api.OK || wordOf(s, x) != w {
		t.Fatalf("%08x: %+v, and back: %08x, %v", w, x, v, e)
	}
}

// All values of the bits that tell a kind, with others all 0, all 1, and mixed.
func TestDecodeOfAllTellingBits(t *testing.T) {
	for op := range uint32(128) {
		for f3 := range uint32(8) {
			for f7 := range uint32(128) {
				w := op | f3<<12 | f7<<25
				for _, rest := range []uint32{0, 0x01ff8f80, 0x00a50500} {
					if rest == 0x00a50500 && f7%8 != 0 {
						continue
					}
					checkWord(t, w|rest)
				}
			}
		}
	}
}

func TestDecodeOfWordsWithoutAShape(t *testing.T) {
	w := uint32(1)
	for range 100000 {
		w = w*1664525 + 1013904223
		checkWord(t, w>>7|w<<25)
	}
}

// Each bit of each kind's words counts: with it turned the word is another instruction's, or none.
func TestDecodeOfEachTurnedBit(t *testing.T) {
	for _, s := range shapes() {
		for _, rest := range []uint32{0, 0xffffffff, 0x5a5a5a5a} {
			w := s.match | rest&^s.mask
			x, e := Decode(w)
			if e != api.OK {
				t.Fatalf("%08x: %v", w, e)
			}
			for k := range 32 {
				v := w ^ 1<<k
				checkWord(t, v)
				if y, e := Decode(v); e == api.OK && y == x {
					t.Fatalf("%08x, %08x: %+v", w, v, x)
				}
			}
		}
	}
}

func TestExamples(t *testing.T) {
	for w, x := range map[uint32]api.Inst{
		0xffb10093: {Op: api.Addi, Rd: 1, Rs1: 2, Imm: -5},
		0xfe208ee3: {Op: api.Beq, Rs1: 1, Rs2: 2, Imm: -4},
		0x001000ef: {Op: api.Jal, Rd: 1, Imm: 2048},
		0x00000013: {Op: api.Addi},
		0x00008067: {Op: api.Jalr, Rs1: 1},
		0x80000063: {Op: api.Beq, Imm: -4096},
		0x7e000fe3: {Op: api.Beq, Imm: 4094},
		0x8000006f: {Op: api.Jal, Imm: -1048576},
		0x7ffff06f: {Op: api.Jal, Imm: 1048574},
		0x80000023: {Op: api.Sb, Imm: -2048},
		0x7e000fa3: {Op: api.Sb, Imm: 2047},
		0x00000073: {Op: api.Ecall},
		0x00100073: {Op: api.Ebreak},
	} {
		if y, e := Decode(w); y != x || e != api.OK {
			t.Errorf("%08x: %+v, %v", w, y, e)
		}
		if v, e := Encode(x); v != w || e != api.OK {
			t.Errorf("%+v: %08x, %v", x, v, e)
		}
	}
	for _, w := range []uint32{0, 0xffffffff, 0x00200073, 0x00100173, 0x30200073, 0x10500073, 0x0000000f, 0x00001073, 0x00003003, 0x00006003, 0x00003023, 0x00002063, 0x00003063, 0x00001067, 0x02001013, 0x40001013, 0x02005013, 0x60005013, 0x40001033, 0x40007033, 0x04000033, 0x22000033} {
		if x, e := Decode(w); x != (api.Inst{}) || e != api.ErrInstForm {
			t.Errorf("%08x: %+v, %v", w, x, e)
		}
	}
}

// P2.3

func TestPlain(t *testing.T) {
	want := map[int]int{
		api.Addi: api.Add, api.Slti: api.Slt, api.Sltiu: api.Sltu, api.Xori: api.Xor, api.Ori: api.Or, api.Andi: api.And,
		api.Slli: api.Sll, api.Srli: api.Srl, api.Srai: api.Sra,
	}
	l := []int{math.MinInt, math.MaxInt, 1 << 32, 1<<32 + api.Addi, api.Addi - 1<<32}
	for op := -3; op <= api.Ops+3; op++ {
		l = append(l, op)
	}
	for _, op := range l {
		p, is := Plain(op)
		q, has := want[op]
		if p != q || is != has {
			t.Errorf("Plain(%d) = %d, %v", op, p, is)
		}
	}
}
