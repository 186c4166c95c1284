package cpu

import (
	"math"
	"slices"
	"testing"

	"whetstone/api"
	"whetstone/inst"
	"whetstone/mem"
)

// plainKinds are the kinds that the chapter calls plain.
func plainKinds() []int {
	return []int{api.Lui, api.Auipc, api.Addi, api.Slti, api.Sltiu, api.Xori, api.Ori, api.Andi, api.Slli, api.Srli, api.Srai, api.Add, api.Sub, api.Sll, api.Slt, api.Sltu, api.Xor, api.Srl, api.Sra, api.Or, api.And, api.Mul, api.Mulh, api.Mulhsu, api.Mulhu, api.Div, api.Divu, api.Rem, api.Remu}
}

func numbersOf(op int) []int {
	switch inst.Form(op) {
	case 'U':
		return []int{0, 1, 2, 0x7ffff, 0x80000, 0xfffff}
	case 'H':
		return []int{0, 1, 5, 16, 31}
	case 'I':
		return []int{-2048, -2047, -5, -1, 0, 1, 31, 32, 2047}
	}
	return []int{0}
}

// P4.1

func TestDoesEachPlainKind(t *testing.T) {
	for _, op := range plainKinds() {
		for _, a := range edgeWords() {
			for _, b := range edgeWords() {
				for _, im := range numbersOf(op) {
					c := api.Cpu{X: registers(), Pc: b}
					c.X[7], c.X[8] = a, b
					x := made(op, 9, 7, 8, im)
					v, _ := plainValue(c, x)
					want := c
					want.X[9], want.Pc = v, b+4
					if got, ok := Does(c, x); got != want || !ok {
						t.Fatalf("Does(%#x, %#x; %v): %#x, %#x, %v, not %#x", a, b, x, got.X[9], got.Pc, ok, v)
					}
				}
			}
		}
	}
}

func TestDoesWithEachRegister(t *testing.T) {
	d := dice(3)
	for _, op := range plainKinds() {
		for r := range 32 {
			for _, x := range []api.Inst{
				made(op, r, 5, 6, numberOf(&d, op)),
				made(op, 5, r, 6, numberOf(&d, op)),
				made(op, 5, 6, r, numberOf(&d, op)),
				made(op, r, r, r, numberOf(&d, op)),
			} {
				c := api.Cpu{X: registers(), Pc: d.word()}
				want := c
				v, _ := plainValue(c, x)
				want.X[x.Rd] = v
				want.X[0] = 0
				want.Pc += 4
				if got, ok := Does(c, x); got != want || !ok {
					t.Fatalf("Does(%v): %v, %v, not %v", x, got, ok, want)
				}
			}
		}
	}
}

func TestDoesTakesTheFirstRegisterAsNought(t *testing.T) {
	c := api.Cpu{X: registers(), Pc: 0x1000}
	c.X[0] = 77
	for _, x := range []struct {
		x    api.Inst
		want uint32
	}{
		{api.Inst{Op: api.Addi, Rd: 5, Imm: 3}, 3},
		{api.Inst{Op: api.Add, Rd: 5, Rs1: 0, Rs2: 0}, 0},
		{api.Inst{Op: api.Sub, Rd: 5, Rs1: 6, Rs2: 0}, c.X[6]},
		{api.Inst{Op: api.Xori, Rd: 0, Rs1: 6, Imm: -1}, 0},
		{api.Inst{Op: api.Lui, Rd: 0, Imm: 5}, 0},
		{api.Inst{Op: api.Auipc, Rd: 0, Imm: 5}, 0},
		{api.Inst{Op: api.Mul, Rd: 0, Rs1: 6, Rs2: 7}, 0},
	} {
		want := c
		want.X[0] = 0
		want.X[x.x.Rd] = x.want
		want.Pc = 0x1004
		if got, ok := Does(c, x.x); got != want || !ok {
			t.Errorf("Does(%v): %v, %v", x.x, got, ok)
		}
	}
}

func TestDoesAtTheLastPlaces(t *testing.T) {
	for pc, next := range map[uint32]uint32{0xfffffff8: 0xfffffffc, 0xfffffffc: 0, 0xfffffffd: 1, last: 3, 0x7ffffffc: 0x80000000, 1: 5} {
		c, ok := Does(api.Cpu{Pc: pc}, api.Inst{Op: api.Auipc, Rd: 1, Imm: 0xfffff})
		if !ok || c.Pc != next || c.X[1] != pc-0x1000 {
			t.Errorf("at %#x: %#x, %#x, %v", pc, c.Pc, c.X[1], ok)
		}
	}
}

// staysAt asserts that Does makes nothing of an instruction.
func staysAt(t *testing.T, x api.Inst) {
	t.Helper()
	c := api.Cpu{X: registers(), Pc: 0x80}
	want := c
	for _, first := range []uint32{0, 5, last} {
		c.X[0] = first
		if got, ok := Does(c, x); ok || got != want {
			t.Errorf("Does(%v): %v, %v", x, got, ok)
		}
	}
}

func TestDoesNothingThatIsNotPlain(t *testing.T) {
	d := dice(8)
	n := 0
	for op := range api.Ops {
		if !slices.Contains(plainKinds(), op) {
			n++
			staysAt(t, made(op, 5, 6, 7, numberOf(&d, op)))
			staysAt(t, made(op, 0, 0, 0, 0))
		}
	}
	if n != 18 {
		t.Errorf("%d kinds are not plain", n)
	}
}

func TestDoesNothingThatIsNotRight(t *testing.T) {
	for _, x := range []api.Inst{
		{Op: -1}, {Op: api.Ops}, {Op: api.Ops + 1}, {Op: math.MaxInt}, {Op: math.MinInt}, {Op: api.Add + 1<<32},
		{Op: api.Add, Rd: 32}, {Op: api.Add, Rd: -1}, {Op: api.Add, Rs1: 32}, {Op: api.Add, Rs1: -1}, {Op: api.Add, Rs2: 32}, {Op: api.Add, Rs2: -1},
		{Op: api.Add, Rd: 1, Imm: 1}, {Op: api.Mul, Rd: 1, Imm: -1}, {Op: api.Mul, Rd: 1 << 32}, {Op: api.Mul, Rs1: math.MinInt}, {Op: api.Mul, Rs2: math.MaxInt},
		{Op: api.Addi, Rd: 1, Imm: 2048}, {Op: api.Addi, Rd: 1, Imm: -2049}, {Op: api.Addi, Rd: 1, Imm: 1 << 32}, {Op: api.Addi, Rd: 1, Rs2: 1}, {Op: api.Addi, Rd: 32}, {Op: api.Addi, Rs1: 99},
		{Op: api.Slli, Rd: 1, Imm: 32}, {Op: api.Srai, Rd: 1, Imm: -1}, {Op: api.Srli, Rd: 1, Rs2: 3},
		{Op: api.Lui, Rd: 1, Imm: 1 << 20}, {Op: api.Lui, Rd: 1, Imm: -1}, {Op: api.Lui, Rd: 32}, {Op: api.Lui, Rd: 1, Rs1: 1}, {Op: api.Auipc, Rd: 1, Rs2: 1}, {Op: api.Auipc, Rd: -1},
		{Op: api.Beq, Imm: 3}, {Op: api.Ecall, Rd: 1}, {Op: api.Lw, Rs1: 32}, {Op: api.Jal, Imm: 1},
	} {
		staysAt(t, x)
	}
}

// P4.2

// stepped holds a step against the model: the machine, how it ended, each byte.
func stepped(t *testing.T, c api.Cpu, b bytesAt) (api.Cpu, int) {
	t.Helper()
	m := b.told()
	want, wantEnd := modelStep(c, b)
	got, end := Step(c, m)
	if got != want || end != wantEnd {
		x, _ := inst.Decode(b.load(c.Pc, 4))
		t.Fatalf("Step(%v) of %v: %v, %d, not %v, %d", x, c, got, end, want, wantEnd)
	}
	if l := b.told().Cells(); !slices.Equal(m.Cells(), l) {
		t.Fatalf("bytes: %v, not %v", m.Cells(), l)
	}
	return got, end
}

func TestStepOfEachKind(t *testing.T) {
	d := dice(5)
	places := []uint32{0, 4, 0x1000, 0x7ffffffc, 0x80000000, 0xfffffff8, 0xfffffffc}
	for op := range api.Ops {
		for range 300 {
			x := made(op, d.below(32), d.below(32), d.below(32), numberOf(&d, op))
			c := api.Cpu{X: registers(), Pc: places[d.below(len(places))]}
			words := edgeWords()
			for range 8 {
				c.X[d.below(32)] = words[d.below(len(words))]
			}
			b := bytesAt{}
			addr := c.X[x.Rs1] + uint32(x.Imm)
			if x.Rs1 == 0 {
				addr = uint32(x.Imm)
			}
			b.store(addr-4, 4, d.word())
			b.store(addr, 4, d.word())
			b.store(addr+4, 4, d.word())
			b.store(c.Pc, 4, wordOf(t, x))
			stepped(t, c, b)
		}
	}
}

func TestStepAtOddPlaces(t *testing.T) {
	m := mem.New()
	for k := range uint32(16) {
		m.Put(k, "\x13")
	}
	m.Put(0xfffffff0, "\x13\x00\x00\x00\x13\x00\x00\x00\x13\x00\x00\x00\x13\x00\x00\x00")
	before := m.Cells()
	for _, pc := range []uint32{1, 2, 3, 5, 6, 7, 0x7fffffff, 0xfffffff1, 0xfffffffd, 0xfffffffe, last} {
		for _, first := range []uint32{0, 3} {
			c := api.Cpu{X: registers(), Pc: pc}
			want := c
			c.X[0] = first
			if got, end := Step(c, m); got != want || end != api.EndFetch {
				t.Errorf("at %#x: %v, %d", pc, got, end)
			}
		}
	}
	if !slices.Equal(m.Cells(), before) {
		t.Error(m.Cells())
	}
}

func TestStepOfNoInstruction(t *testing.T) {
	for _, w := range []uint32{0, last, 0x00200073, 0x00000072, 0x00007013 | 1<<7 | 0x60, 0x40001013, 0x02000013 | 5<<12 | 1<<31, 0x00003003, 0x00003023, 0x00002063, 0x00001067} {
		if _, e := inst.Decode(w); e == api.OK {
			t.Fatalf("%#x is an instruction", w)
		}
		for _, pc := range []uint32{0, 8, 0xfffffffc} {
			m := mem.New()
			m.Store(pc, 4, w)
			before := m.Cells()
			c := api.Cpu{X: registers(), Pc: pc}
			want := c
			c.X[0] = 1
			if got, end := Step(c, m); got != want || end != api.EndIllegal {
				t.Errorf("%#x at %#x: %v, %d", w, pc, got, end)
			}
			if !slices.Equal(m.Cells(), before) {
				t.Error(m.Cells())
			}
		}
	}
}

func TestJumps(t *testing.T) {
	for _, x := range []struct {
		x    api.Inst
		pc   uint32
		with uint32
		rd   uint32
		to   uint32
	}{
		{api.Inst{Op: api.Jal, Rd: 1, Imm: 8}, 0x100, 0, 0x104, 0x108},
		{api.Inst{Op: api.Jal, Rd: 1, Imm: -8}, 0, 0, 4, 0xfffffff8},
		{api.Inst{Op: api.Jal, Rd: 1, Imm: 2}, 0x100, 0, 0x104, 0x102},
		{api.Inst{Op: api.Jal, Rd: 1, Imm: 0}, 0xfffffffc, 0, 0, 0xfffffffc},
		{api.Inst{Op: api.Jal, Rd: 1, Imm: 8}, 0xfffffffc, 0, 0, 4},
		{api.Inst{Op: api.Jal, Rd: 1, Imm: -1 << 20}, 0x100, 0, 0x104, 0xfff00100},
		{api.Inst{Op: api.Jalr, Rd: 1, Rs1: 1, Imm: 0}, 0x100, 0x200, 0x104, 0x200},
		{api.Inst{Op: api.Jalr, Rd: 1, Rs1: 1, Imm: 1}, 0x100, 0x200, 0x104, 0x200},
		{api.Inst{Op: api.Jalr, Rd: 1, Rs1: 1, Imm: -1}, 0x100, 0x200, 0x104, 0x1fe},
		{api.Inst{Op: api.Jalr, Rd: 1, Rs1: 1, Imm: 2}, 0x100, 0x200, 0x104, 0x202},
		{api.Inst{Op: api.Jalr, Rd: 1, Rs1: 1, Imm: 3}, 0x100, 0x200, 0x104, 0x202},
		{api.Inst{Op: api.Jalr, Rd: 1, Rs1: 1, Imm: -1}, 0x100, 0, 0x104, 0xfffffffe},
		{api.Inst{Op: api.Jalr, Rd: 1, Rs1: 1, Imm: 2}, 0x100, last, 0x104, 0},
		{api.Inst{Op: api.Jalr, Rd: 1, Rs1: 0, Imm: 0x40}, 0x100, 0x999, 0x104, 0x40},
	} {
		for _, first := range []uint32{0, 0x12345} {
			m := laid(t, x.pc, x.x)
			c := api.Cpu{X: registers(), Pc: x.pc}
			c.X[1] = x.with
			want := c
			want.X[1], want.Pc = x.rd, x.to
			c.X[0] = first
			if got, end := Step(c, m); got != want || end != api.EndNone {
				t.Errorf("%v at %#x: %#x, %#x, %d", x.x, x.pc, got.X[1], got.Pc, end)
			}
			lost := x.x
			lost.Rd = 0
			want.X[1] = x.with
			if got, end := Step(c, laid(t, x.pc, lost)); got != want || end != api.EndNone {
				t.Errorf("%v at %#x: %v, %d", lost, x.pc, got, end)
			}
		}
	}
}

func TestBranches(t *testing.T) {
	const least = 0x80000000
	for _, x := range []struct {
		op   int
		a, b uint32
		goes bool
	}{
		{api.Beq, 5, 5, true}, {api.Beq, 5, 6, false}, {api.Beq, 0, least, false},
		{api.Bne, 5, 5, false}, {api.Bne, 5, 6, true}, {api.Bne, 0, least, true},
		{api.Blt, 5, 6, true}, {api.Blt, 6, 5, false}, {api.Blt, 5, 5, false}, {api.Blt, last, 0, true}, {api.Blt, 0, last, false}, {api.Blt, least, least - 1, true}, {api.Blt, least - 1, least, false},
		{api.Bge, 5, 6, false}, {api.Bge, 6, 5, true}, {api.Bge, 5, 5, true}, {api.Bge, last, 0, false}, {api.Bge, 0, last, true}, {api.Bge, least, least - 1, false}, {api.Bge, least - 1, least, true},
		{api.Bltu, 5, 6, true}, {api.Bltu, 6, 5, false}, {api.Bltu, 5, 5, false}, {api.Bltu, last, 0, false}, {api.Bltu, 0, last, true}, {api.Bltu, least, least - 1, false}, {api.Bltu, least - 1, least, true},
		{api.Bgeu, 5, 6, false}, {api.Bgeu, 6, 5, true}, {api.Bgeu, 5, 5, true}, {api.Bgeu, last, 0, true}, {api.Bgeu, 0, last, false}, {api.Bgeu, least, least - 1, true}, {api.Bgeu, least - 1, least, false},
	} {
		for _, im := range []int{-4096, -8, -2, 0, 2, 8, 4094} {
			for _, pc := range []uint32{0, 0x2000, 0xfffffffc} {
				c := api.Cpu{X: registers(), Pc: pc}
				c.X[3], c.X[4] = x.a, x.b
				want := c
				want.Pc = pc + 4
				if x.goes {
					want.Pc = pc + uint32(im)
				}
				m := laid(t, pc, api.Inst{Op: x.op, Rs1: 3, Rs2: 4, Imm: im})
				if got, end := Step(c, m); got != want || end != api.EndNone {
					t.Errorf("%v by %d at %#x: %#x, %d", x, im, pc, got.Pc, end)
				}
			}
		}
	}
}

func TestBranchesTakeTheFirstRegisterAsNought(t *testing.T) {
	c := api.Cpu{Pc: 0x10}
	c.X[0] = 9
	for op, to := range map[int]uint32{api.Beq: 0x18, api.Bne: 0x14, api.Bltu: 0x14, api.Bgeu: 0x18} {
		m := laid(t, 0x10, api.Inst{Op: op, Rs1: 0, Rs2: 5, Imm: 8})
		if got, end := Step(c, m); got != (api.Cpu{Pc: to}) || end != api.EndNone {
			t.Errorf("%d: %v, %d", op, got, end)
		}
	}
}

func TestLoads(t *testing.T) {
	for _, x := range []struct {
		op   int
		off  int
		want uint32
	}{
		{api.Lb, 0, 0x7f}, {api.Lb, 1, 0xffffff80}, {api.Lb, 2, 0}, {api.Lb, 3, last},
		{api.Lbu, 0, 0x7f}, {api.Lbu, 1, 0x80}, {api.Lbu, 2, 0}, {api.Lbu, 3, 0xff},
		{api.Lh, 0, 0xffff807f}, {api.Lh, 2, 0xffffff00}, {api.Lh, 4, 0x7fff}, {api.Lh, 6, 0xffff8000},
		{api.Lhu, 0, 0x807f}, {api.Lhu, 2, 0xff00}, {api.Lhu, 4, 0x7fff}, {api.Lhu, 6, 0x8000},
		{api.Lw, 0, 0xff00807f}, {api.Lw, 4, 0x80007fff},
	} {
		for _, at := range []uint32{0x100, 0, 0xfffffff8, 0xfffffffc} {
			m := laid(t, 0x40, api.Inst{Op: x.op, Rd: 5, Rs1: 6, Imm: x.off - 8}, api.Inst{Op: x.op, Rd: 6, Rs1: 6, Imm: x.off - 8}, api.Inst{Op: x.op, Rd: 0, Rs1: 6, Imm: x.off - 8})
			m.Put(at, "\x7f\x80\x00\xff\xff\x7f\x00\x80")
			before := m.Cells()
			for k, rd := range []int{5, 6, 0} {
				c := api.Cpu{X: registers(), Pc: 0x40 + 4*uint32(k)}
				c.X[6] = at + 8
				want := c
				want.X[rd] = x.want
				want.X[0] = 0
				want.Pc += 4
				if got, end := Step(c, m); got != want || end != api.EndNone {
					t.Errorf("%v at %#x to %d: %#x, %d", x, at, rd, got.X[rd], end)
				}
			}
			if !slices.Equal(m.Cells(), before) {
				t.Errorf("%v: %v", x, m.Cells())
			}
		}
	}
}

func TestStores(t *testing.T) {
	for _, x := range []struct {
		op  int
		off int
		s   string
	}{
		{api.Sb, 0, "\x04bcd"}, {api.Sb, 1, "a\x04cd"}, {api.Sb, 2, "ab\x04d"}, {api.Sb, 3, "abc\x04"},
		{api.Sh, 0, "\x04\x03cd"}, {api.Sh, 2, "ab\x04\x03"},
		{api.Sw, 0, "\x04\x03\x02\x81"},
	} {
		for _, at := range []uint32{0x100, 0, 0x7ffffffc, 0xfffffffc} {
			for _, off := range []int{-2048, -4, 0, 4} {
				m := laid(t, 0x40, api.Inst{Op: x.op, Rs1: 6, Rs2: 7, Imm: x.off + off})
				m.Put(at-4, "efghabcdijkl")
				before := len(m.Cells())
				c := api.Cpu{X: registers(), Pc: 0x40}
				c.X[6], c.X[7] = at-uint32(off), 0x81020304
				want := c
				want.Pc = 0x44
				if got, end := Step(c, m); got != want || end != api.EndNone {
					t.Errorf("%v at %#x: %v, %d", x, at, got, end)
				}
				if s := m.Bytes(at-4, 12); s != "efgh"+x.s+"ijkl" {
					t.Errorf("%v at %#x: %q", x, at, s)
				}
				if len(m.Cells()) != before {
					t.Errorf("%v at %#x: %v", x, at, m.Cells())
				}
			}
		}
	}
}

func TestStoreOfTheFirstRegister(t *testing.T) {
	m := laid(t, 0, api.Inst{Op: api.Sw, Rs1: 0, Rs2: 0, Imm: 0x80})
	m.Put(0x80, "abcd")
	c := api.Cpu{}
	c.X[0] = 0x20
	if got, end := Step(c, m); got != (api.Cpu{Pc: 4}) || end != api.EndNone {
		t.Error(got, end)
	}
	if s := m.Bytes(0x80, 4); s != "\x00\x00\x00\x00" {
		t.Errorf("%q", s)
	}
}

func TestAccessAtOddPlaces(t *testing.T) {
	for _, op := range []int{api.Lb, api.Lbu, api.Sb, api.Lh, api.Lhu, api.Sh, api.Lw, api.Sw} {
		for _, base := range []uint32{0x100, 0x101, 0x102, 0x103, 0, 0xfffffffc, 0xfffffffd, 0xfffffffe, last} {
			for im := -5; im <= 5; im++ {
				for _, rd := range []int{0, 6, 7} {
					c := api.Cpu{X: registers(), Pc: 0x40}
					c.X[6] = base
					stays := c
					c.X[0] = 1
					m := laid(t, 0x40, made(op, rd, 6, 7, im))
					m.Put(base-8, "0123456789abcdef")
					before := m.Cells()
					odd := (base+uint32(im))%bytesOf(op) != 0
					got, end := Step(c, m)
					if odd && (got != stays || end != api.EndAccess || !slices.Equal(m.Cells(), before)) {
						t.Errorf("%d at %#x and %d: %v, %d", op, base, im, got, end)
					}
					if !odd && (got.Pc != 0x44 || end != api.EndNone) {
						t.Errorf("%d at %#x and %d: %v, %d", op, base, im, got, end)
					}
				}
			}
		}
	}
}

func TestCallsAndBreaks(t *testing.T) {
	for _, pc := range []uint32{0, 0x100, 0xfffffffc} {
		c := api.Cpu{X: registers(), Pc: pc}
		want := c
		c.X[0] = 6
		if got, end := Step(c, laid(t, pc, api.Inst{Op: api.Ebreak})); got != want || end != api.EndBreak {
			t.Errorf("at %#x: %v, %d", pc, got, end)
		}
		want.Pc = pc + 4
		if got, end := Step(c, laid(t, pc, api.Inst{Op: api.Ecall})); got != want || end != api.EndCall {
			t.Errorf("at %#x: %v, %d", pc, got, end)
		}
	}
}

func TestExampleOfTheChapter(t *testing.T) {
	m := mem.New()
	m.Store(0, 4, 0x00500093)
	m.Store(4, 4, 0x00000073)
	c, end := Step(api.Cpu{}, m)
	want := api.Cpu{Pc: 4}
	want.X[1] = 5
	if c != want || end != api.EndNone {
		t.Error(c, end)
	}
	want.Pc = 8
	if c, end = Step(c, m); c != want || end != api.EndCall {
		t.Error(c, end)
	}
}

func TestStepOverTheLastPlace(t *testing.T) {
	m := laid(t, 0xfffffffc, api.Inst{Op: api.Addi, Rd: 1, Imm: 1}, api.Inst{Op: api.Addi, Rd: 1, Rs1: 1, Imm: 2}, api.Inst{Op: api.Ebreak})
	c, calls, end, n := Run(api.Cpu{Pc: 0xfffffffc}, m, nil, 10)
	want := api.Cpu{Pc: 4}
	want.X[1] = 3
	if c != want || len(calls) != 0 || end != api.EndBreak || n != 3 {
		t.Error(c, calls, end, n)
	}
}

// A word that a store has written is the next instruction like each other one.
func TestStepOfWhatWasStored(t *testing.T) {
	m := laid(t, 0, api.Inst{Op: api.Sw, Rs2: 1, Imm: 4}, api.Inst{Op: api.Ebreak}, api.Inst{Op: api.Ebreak})
	c := api.Cpu{}
	c.X[1] = wordOf(t, api.Inst{Op: api.Addi, Rd: 2, Imm: 9})
	if c, _, end, n := Run(c, m, nil, 5); c.X[2] != 9 || c.Pc != 8 || end != api.EndBreak || n != 3 {
		t.Error(c, end, n)
	}
}
