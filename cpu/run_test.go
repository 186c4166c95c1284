package cpu

import (
	"math"
	"slices"
	"testing"

	"whetstone/api"
)

// counting calls three times, with what was answered last and 3, 2, 1 in the register 10.
func counting() []api.Inst {
	return []api.Inst{
		{Op: api.Addi, Rd: 5, Imm: 3},
		{Op: api.Add, Rd: 10, Rs1: 10, Rs2: 5},
		{Op: api.Ecall},
		{Op: api.Addi, Rd: 5, Rs1: 5, Imm: -1},
		{Op: api.Bne, Rs1: 5, Imm: -12},
		{Op: api.Ebreak},
	}
}

// P4.3

func TestRunWithAnswers(t *testing.T) {
	for _, x := range []struct {
		answers []uint32
		fuel    int
		asked   []uint32
		ten     uint32
		end, n  int
	}{
		{[]uint32{10, 20, 30}, 100, []uint32{3, 12, 21}, 30, api.EndBreak, 14},
		{[]uint32{10, 20, 30, 40, 50}, 100, []uint32{3, 12, 21}, 30, api.EndBreak, 14},
		{[]uint32{10, 20}, 100, []uint32{3, 12, 21}, 21, api.EndCall, 11},
		{[]uint32{10}, 100, []uint32{3, 12}, 12, api.EndCall, 7},
		{nil, 100, []uint32{3}, 3, api.EndCall, 3},
		{[]uint32{}, 100, []uint32{3}, 3, api.EndCall, 3},
		{nil, 3, []uint32{3}, 3, api.EndCall, 3},
		{[]uint32{10}, 3, []uint32{3}, 10, api.EndFuel, 3},
		{nil, 2, nil, 3, api.EndFuel, 2},
		{[]uint32{10, 20, 30}, 14, []uint32{3, 12, 21}, 30, api.EndBreak, 14},
		{[]uint32{10, 20, 30}, 13, []uint32{3, 12, 21}, 30, api.EndFuel, 13},
		{[]uint32{10, 20, 30}, 1, nil, 0, api.EndFuel, 1},
		{[]uint32{10, 20, 30}, 0, nil, 0, api.EndFuel, 0},
		{[]uint32{10, 20, 30}, math.MaxInt, []uint32{3, 12, 21}, 30, api.EndBreak, 14},
	} {
		c, calls, end, n := Run(api.Cpu{}, laid(t, 0, counting()...), x.answers, x.fuel)
		var asked []uint32
		for _, k := range calls {
			asked = append(asked, k.A[0])
		}
		if !slices.Equal(asked, x.asked) || c.X[10] != x.ten || end != x.end || n != x.n {
			t.Errorf("Run(%v, %d): %v, %d, %d, %d", x.answers, x.fuel, asked, c.X[10], end, n)
		}
	}
}

func TestRunNotesEightRegisters(t *testing.T) {
	c := api.Cpu{X: registers()}
	want := api.Call{A: [8]uint32{c.X[10], c.X[11], c.X[12], c.X[13], c.X[14], c.X[15], c.X[16], c.X[17]}}
	m := laid(t, 0, api.Inst{Op: api.Ecall}, api.Inst{Op: api.Ecall}, api.Inst{Op: api.Ebreak})
	got, calls, end, n := Run(c, m, []uint32{1, 2, 3}, 9)
	second := want
	second.A[0] = 1
	if !slices.Equal(calls, []api.Call{want, second}) || end != api.EndBreak || n != 3 {
		t.Error(calls, end, n)
	}
	c.X[10], c.Pc = 2, 8
	if got != c {
		t.Error(got)
	}
}

func TestRunWithFuelBelowOne(t *testing.T) {
	for _, fuel := range []int{0, -1, -2, math.MinInt32, math.MinInt} {
		for _, pc := range []uint32{0, 1, 8} {
			m := laid(t, 0, counting()...)
			before := m.Cells()
			c := api.Cpu{X: registers(), Pc: pc}
			want := c
			c.X[0] = 4
			got, calls, end, n := Run(c, m, []uint32{1}, fuel)
			if got != want || len(calls) != 0 || end != api.EndFuel || n != 0 {
				t.Errorf("fuel %d: %v, %v, %d, %d", fuel, got, calls, end, n)
			}
			if !slices.Equal(m.Cells(), before) {
				t.Error(m.Cells())
			}
		}
	}
}

func TestRunEndsAsItsStep(t *testing.T) {
	for _, x := range []struct {
		x   api.Inst
		end int
		pc  uint32
		n   int
	}{
		{api.Inst{Op: api.Ebreak}, api.EndBreak, 4, 2},
		{api.Inst{Op: api.Lw, Rd: 1, Imm: 2}, api.EndAccess, 4, 2},
		{api.Inst{Op: api.Sh, Imm: 1}, api.EndAccess, 4, 2},
		{api.Inst{Op: api.Addi}, api.EndIllegal, 8, 3},
		{api.Inst{Op: api.Jal, Imm: 2}, api.EndFetch, 6, 3},
		{api.Inst{Op: api.Jalr, Imm: 3}, api.EndFetch, 2, 3},
		{api.Inst{Op: api.Ecall}, api.EndCall, 8, 2},
		{api.Inst{Op: api.Jal}, api.EndFuel, 4, 50},
	} {
		m := laid(t, 0, api.Inst{Op: api.Addi}, x.x)
		c, calls, end, n := Run(api.Cpu{}, m, nil, 50)
		if c != (api.Cpu{Pc: x.pc}) || end != x.end || n != x.n {
			t.Errorf("%v: %v, %d, %d", x.x, c, end, n)
		}
		if (len(calls) == 1) != (end == api.EndCall) || len(calls) > 1 {
			t.Errorf("%v: %v", x.x, calls)
		}
		if c, _, end, n := Run(api.Cpu{}, m, nil, x.n); c.Pc != x.pc || end != x.end || n != x.n {
			t.Errorf("%v, fuel %d: %v, %d, %d", x.x, x.n, c, end, n)
		}
		if _, _, end, n := Run(api.Cpu{}, m, nil, x.n-1); end != api.EndFuel || n != x.n-1 {
			t.Errorf("%v, fuel %d: %d, %d", x.x, x.n-1, end, n)
		}
	}
}

// scattered is a memory whose words are mostly instructions of all kinds, near to one another, and a machine in it.
func scattered(t *testing.T, d *dice) (api.Cpu, bytesAt) {
	b := bytesAt{}
	base := []uint32{0, 0x1000, 0xffffff80}[d.below(3)]
	for k := range uint32(64) {
		op := d.below(api.Ops)
		im := numberOf(d, op)
		switch op {
		case api.Ebreak:
			op -= d.below(2) // the half of them is Ecall
		case api.Jal, api.Beq, api.Bne, api.Blt, api.Bge, api.Bltu, api.Bgeu:
			im = (d.below(16) - 8) * 4
		case api.Lh, api.Lhu, api.Lw, api.Sh, api.Sw, api.Jalr:
			im = (d.below(64) - 32) * 4
		}
		w := wordOf(t, made(op, d.below(32), d.below(8), d.below(32), im))
		if d.below(40) == 0 {
			w = d.word()
		}
		b.store(base+4*k, 4, w)
	}
	c := api.Cpu{X: registers(), Pc: base}
	for k := range 8 {
		c.X[k] = base + 4*uint32(d.below(64))
	}
	return c, b
}

func TestRunsAsTheModel(t *testing.T) {
	d := dice(77)
	ends := map[int]int{}
	for range 2000 {
		c, b := scattered(t, &d)
		answers := make([]uint32, d.below(5))
		for k := range answers {
			answers[k] = d.word()
		}
		fuel := d.below(60)
		m := b.told()
		got, calls, end, n := Run(c, m, answers, fuel)
		want, wantCalls, wantEnd, wantN := modelRun(c, b, answers, fuel)
		if got != want || !slices.Equal(calls, wantCalls) || end != wantEnd || n != wantN {
			t.Fatalf("%v, %v, %d, %d, not %v, %v, %d, %d", got, calls, end, n, want, wantCalls, wantEnd, wantN)
		}
		if !slices.Equal(m.Cells(), b.told().Cells()) {
			t.Fatal("other bytes")
		}
		ends[end]++
	}
	for end := api.EndCall; end <= api.EndFuel; end++ {
		if ends[end] == 0 {
			t.Errorf("no run ended with %d", end)
		}
	}
}

// P4.4

func TestTwoRunsAreOne(t *testing.T) {
	d := dice(1234)
	for range 400 {
		c, b := scattered(t, &d)
		answers := []uint32{d.word(), d.word(), d.word(), d.word()}[:d.below(5)]
		fuel := d.below(40)
		whole := b.told()
		want, wantCalls, wantEnd, wantN := Run(c, whole, answers, fuel)
		for first := range fuel + 1 {
			m := b.told()
			mid, calls, end, n := Run(c, m, answers, first)
			if end == api.EndFuel {
				left := answers[len(calls):]
				last, more, lastEnd, n2 := Run(mid, m, left, fuel-first)
				mid, calls, end, n = last, append(calls, more...), lastEnd, n+n2
			}
			if mid != want || !slices.Equal(calls, wantCalls) || end != wantEnd || n != wantN || !slices.Equal(m.Cells(), whole.Cells()) {
				t.Fatalf("%d of %d: %v, %d, %d, not %v, %d, %d", first, fuel, mid, end, n, want, wantEnd, wantN)
			}
		}
	}
}

func TestRunIsItsSteps(t *testing.T) {
	d := dice(4321)
	for range 300 {
		c, b := scattered(t, &d)
		m, single := b.told(), b.told()
		want, _, wantEnd, n := Run(c, m, nil, 30)
		end := api.EndFuel
		for range n {
			c, end = Step(c, single)
		}
		if end == api.EndNone {
			end = api.EndFuel
		}
		if c != want || end != wantEnd || !slices.Equal(m.Cells(), single.Cells()) {
			t.Fatalf("%v, %d, not %v, %d", c, end, want, wantEnd)
		}
	}
}

func TestStepChangesNoByteButByAStore(t *testing.T) {
	d := dice(99)
	for range 3000 {
		c, b := scattered(t, &d)
		m := b.told()
		for range 10 {
			before := m.Cells()
			word := b.load(c.Pc, 4)
			kind := word & 0x7f
			next, end := Step(c, m)
			if kind != 0x23 && !slices.Equal(m.Cells(), before) {
				t.Fatalf("%#x has changed a byte", word)
			}
			if kind == 0x23 || end > api.EndCall {
				break
			}
			c = next
		}
	}
}

// R4

func TestRunLeavesTheAnswers(t *testing.T) {
	room := []uint32{1, 2, 3, 4, 5, 6}
	answers := room[1:4]
	m := laid(t, 0, counting()...)
	_, first, _, _ := Run(api.Cpu{}, m, answers, 100)
	if !slices.Equal(room, []uint32{1, 2, 3, 4, 5, 6}) {
		t.Error(room)
	}
	want := slices.Clone(first)
	_, second, _, _ := Run(api.Cpu{}, m, answers, 100)
	for _, l := range [][]api.Call{first, first[:cap(first)]} {
		for k := range l {
			l[k] = api.Call{A: [8]uint32{9, 9, 9, 9, 9, 9, 9, 9}}
		}
	}
	for k := range room {
		room[k] = 88
	}
	if !slices.Equal(second, want) {
		t.Error(second)
	}
	if _, third, _, _ := Run(api.Cpu{}, m, []uint32{2, 3, 4}, 100); !slices.Equal(third, want) {
		t.Error(third)
	}
}
