package live

import (
	"math"
	"math/rand"
	"slices"
	"testing"

	"whetstone/api"
	"whetstone/cpu"
	"whetstone/mem"
)

// P9.4

// machine is one with any registers; some of them are few, so that branches
// go both ways.
func machine(r *rand.Rand) api.Cpu {
	c := api.Cpu{Pc: 4 * uint32(r.Intn(1<<30))}
	for k := 1; k < 32; k++ {
		c.X[k] = []uint32{r.Uint32(), 0, 1, math.MaxUint32, 4 * uint32(r.Intn(64)), 1 << 31}[r.Intn(6)]
	}
	return c
}

// other is a machine with other words in the registers that do not count.
func other(r *rand.Rand, c api.Cpu, counts uint32) api.Cpu {
	for k := 1; k < 32; k++ {
		if counts>>k&1 == 0 {
			c.X[k] += 1 + uint32(r.Intn(1000))
		}
	}
	return c
}

// differ are the registers that are not the same.
func differ(c, d api.Cpu) uint32 {
	return gathered(func(r int) bool { return c.X[r] != d.X[r] })
}

func TestPlainOnesBehindWhatCounts(t *testing.T) {
	r := rand.New(rand.NewSource(94))
	n := map[int]int{}
	for range 40000 {
		x := chanceInst(r)
		behind := []uint32{r.Uint32(), r.Uint32() & r.Uint32() & r.Uint32(), every, 0, regs(x.Rd), regs(1, 2, 3, 5, 10)}[r.Intn(6)]
		ahead := Back([]api.Inst{x}, behind)
		c := machine(r)
		d := other(r, c, ahead)
		if c == d && ahead != every {
			t.Fatal("the machines are one")
		}
		c, plain := cpu.Does(c, x)
		d, _ = cpu.Does(d, x)
		if !plain {
			continue
		}
		n[x.Op]++
		if w := differ(c, d) & behind; w != 0 || c.Pc != d.Pc {
			t.Fatalf("%+v behind %x: the registers %x differ", x, behind, w)
		}
	}
	if len(n) != 28+1 {
		t.Error("kinds that were met", len(n))
	}
}

// There are machines that differ in one register alone, and behind an
// instruction in the one that counts, of just the registers that count ahead.
func TestPlainOnesNeedWhatCounts(t *testing.T) {
	r := rand.New(rand.NewSource(194))
	for _, x := range []api.Inst{add(1, 2, 3), addi(1, 2, 5), {Op: api.Sub, Rd: 1, Rs1: 2, Rs2: 3}, {Op: api.Mul, Rd: 1, Rs1: 2, Rs2: 3}, {Op: api.Divu, Rd: 1, Rs1: 2, Rs2: 3}, {Op: api.Srai, Rd: 1, Rs1: 2, Imm: 1}} {
		ahead := Back([]api.Inst{x}, regs(1))
		for k := range 32 {
			met := false
			for range 2000 {
				c := machine(r)
				d := c
				d.X[k] = r.Uint32() % 16
				c, _ = cpu.Does(c, x)
				d, _ = cpu.Does(d, x)
				met = met || c.X[1] != d.X[1]
			}
			if met != (ahead>>k&1 == 1) {
				t.Errorf("%+v: the register %d makes a difference: %v; counts ahead: %x", x, k, met, ahead)
			}
		}
	}
}

func TestMoreBehindGiveNoFewerAhead(t *testing.T) {
	r := rand.New(rand.NewSource(294))
	for range 20000 {
		var l []api.Inst
		for range r.Intn(10) {
			l = append(l, chanceAt(r, 0, 3))
		}
		behind := r.Uint32() & r.Uint32()
		more := behind | r.Uint32()&r.Uint32()
		if a, b := Back(l, behind), Back(l, more); a&^b != 0 {
			t.Fatalf("%+v: behind %x ahead %x, behind %x ahead %x", l, behind, a, more, b)
		}
	}
}

// asMemory is a memory with a text in it.
func asMemory(i api.Image) *mem.Mem {
	m := mem.New()
	for k, w := range i.Words {
		m.Store(i.Base+4*uint32(k), 4, w)
	}
	return m
}

// at are the numbers of the blocks that begin at an address, and of those that
// end with it; -1, if there is none.
func at(l []api.Block, pc uint32) (int, int) {
	begins, ends := -1, -1
	for k, c := range l {
		if c.At == pc {
			begins = k
		}
		if c.At+4*uint32(c.N-1) == pc {
			ends = k
		}
	}
	return begins, ends
}

// Two machines that are the same as far as registers count ahead of a block do
// the same from there on, for as long as they stay in the blocks.
func TestMachinesGoOnAlike(t *testing.T) {
	r := rand.New(rand.NewSource(394))
	checks, blind := 0, 0
	for range 8000 {
		i, l := chance(r)
		ahead, behind, _ := Find(i, l)
		k := r.Intn(len(l))
		c := machine(r)
		c.Pc = l[k].At
		d := other(r, c, ahead[k])
		m, n := asMemory(i), asMemory(i)
		for range 40 {
			begins, ends := at(l, c.Pc)
			if w, _ := m.Load(c.Pc, 4); c.Pc-i.Base >= 4*uint32(len(i.Words)) || w != i.Words[(c.Pc-i.Base)/4] {
				break
			}
			if begins >= 0 {
				checks++
				if w := differ(c, d); w&ahead[begins] != 0 {
					t.Fatalf("%#x, blocks %v: ahead of %d the registers %x differ, %x count", i, l, begins, w, ahead[begins])
				} else if w != 0 {
					blind++
				}
			}
			var endC, endD int
			c, endC = cpu.Step(c, m)
			d, endD = cpu.Step(d, n)
			if endC != endD || c.Pc != d.Pc || !slices.Equal(m.Cells(), n.Cells()) {
				t.Fatalf("%#x, blocks %v: %d, %d at %#x, %#x", i, l, endC, endD, c.Pc, d.Pc)
			}
			if endC == api.EndCall {
				if !slices.Equal(c.X[10:18], d.X[10:18]) {
					t.Fatalf("%#x, blocks %v: other questions", i, l)
				}
				c.X[10] = r.Uint32() % 8
				d.X[10] = c.X[10]
			}
			// What ends at an odd place did nothing.
			if endC == api.EndAccess {
				break
			}
			if ends >= 0 && differ(c, d)&behind[ends] != 0 {
				t.Fatalf("%#x, blocks %v: behind %d the registers %x differ, %x count", i, l, ends, differ(c, d), behind[ends])
			}
			if endC == api.EndBreak {
				break
			}
		}
	}
	if checks < 20000 || blind < 5000 {
		t.Error("too few places were looked at", checks, blind)
	}
}
