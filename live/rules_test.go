package live

import (
	"math"
	"math/rand"
	"slices"
	"testing"

	"whetstone/api"
	"whetstone/blocks"
)

// R1

func TestEndsOfAnyInstruction(t *testing.T) {
	r := rand.New(rand.NewSource(1))
	some := []int{0, 1, -1, 31, 32, 63, 64, 65, math.MinInt, math.MaxInt, 1 << 32}
	for range 20000 {
		pick := func() int { return some[r.Intn(len(some))] }
		x := api.Inst{Op: r.Intn(api.Ops+2) - 1, Rd: pick(), Rs1: pick(), Rs2: pick(), Imm: pick()}
		u, s := Uses(x), Sets(x)
		if u&1 != 0 || s&1 != 0 {
			t.Fatalf("%+v: %x, %x: the bit 0 is 1", x, u, s)
		}
		if w := Back([]api.Inst{x}, math.MaxUint32); w != every&^s|u {
			t.Fatalf("%+v: %x", x, w)
		}
	}
}

func TestEndsOfAnyImage(t *testing.T) {
	texts := []api.Image{{}, from(stop()), from(addi(5, 6, 0), bne(5, 6, -4), jal(1, 8), stop(), stop()), from(jal(0, -4)), from(bne(1, 2, 2), jalr(1, 2), stop())}
	for _, i := range texts {
		for _, base := range []uint32{0, 1, 2, 3, 0x1001, 0xffffffff, 0xfffffffe, 0xfffffffc, 0xfffffff8, 0xfffffff4} {
			for _, entry := range []uint32{base, base + 3, base &^ 3, base + 4, 0, 4, 0xfffffffc} {
				i.Base, i.Entry = base, entry
				for _, further := range [][]uint32{nil, {0}, {0xfffffffc, 4}} {
					l, _ := blocks.Find(i, further)
					for _, m := range [][]api.Block{l, nil, {{At: base, N: 1}}, {{At: entry, N: math.MaxInt}, {N: math.MinInt}}} {
						ahead, behind, e := Find(i, m)
						if e == api.OK && (len(ahead) != len(m) || len(behind) != len(m)) || e != api.OK && (e != api.ErrArg || len(ahead)+len(behind) > 0) {
							t.Errorf("%+v, %v: %x, %x, %v", i, m, ahead, behind, e)
						}
					}
				}
			}
		}
	}
}

// R4

func TestNothingHandedInIsChanged(t *testing.T) {
	roomX := []api.Inst{addi(5, 6, 0), ecall(), {Op: -1}, stop(), jal(1, 8)}
	beforeX := slices.Clone(roomX)
	Back(roomX[:3], 7)
	i := from(addi(5, 6, 0), bne(5, 7, 8), jal(0, -8), stop())
	roomW := append(i.Words, 8, 9)
	i.Words = roomW[:4]
	roomB := append(parted(t, i), b(1, 1), b(2, 2))
	beforeW, beforeB := slices.Clone(roomW), slices.Clone(roomB)
	if _, _, e := Find(i, roomB[:len(roomB)-2]); e != api.OK {
		t.Fatal(e)
	}
	if _, _, e := Find(i, roomB[1:]); e != api.ErrArg {
		t.Fatal(e)
	}
	if !slices.Equal(roomX, beforeX) || !slices.Equal(roomW, beforeW) || !slices.Equal(roomB, beforeB) {
		t.Error("a list that was handed in is another one", roomX, roomW, roomB)
	}
}

// fill writes a word all over a list, and over the room behind it.
func fill(l []uint32, w uint32) {
	l = l[:cap(l)]
	for k := range l {
		l[k] = w
	}
}

func TestAnswersAreNew(t *testing.T) {
	i := from(addi(5, 6, 0), bne(5, 7, 8), jal(0, -8), jal(0, 0))
	l := parted(t, i)
	ahead, behind, _ := Find(i, l)
	a, b, _ := Find(i, l)
	wantA, wantB := []uint32{regs(6, 7), regs(6, 7), 0}, []uint32{regs(6, 7), regs(6, 7), 0}
	clear(i.Words)
	clear(l)
	fill(behind, 99)
	fill(ahead, 98)
	if slices.Contains(behind[:cap(behind)], 98) {
		t.Error("the two lists of an answer share their memory", behind)
	}
	if !slices.Equal(a, wantA) || !slices.Equal(b, wantB) {
		t.Error("an answer shares its memory with another one, or with what was handed in", a, b)
	}
	if slices.ContainsFunc(a[len(a):cap(a)], func(w uint32) bool { return w != 0 }) {
		t.Error("something stands in the room behind an answer")
	}
}

// R5

func TestAnswersHangOnArgumentsAlone(t *testing.T) {
	r := rand.New(rand.NewSource(5))
	i, l := chance(r)
	a, b := modelFind(i, l)
	for range 50 {
		j, m := chance(r)
		_, _, _ = Find(j, m[:len(m)-1])
		_, _, _ = Find(j, m)
		Back([]api.Inst{stop()}, every)
		counts(t, "once more", i, l, append(slices.Clone(a), b...)...)
	}
}
