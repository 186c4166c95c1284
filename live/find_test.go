package live

import (
	"math"
	"math/rand"
	"slices"
	"testing"

	"whetstone/api"
	"whetstone/blocks"
	"whetstone/elf"
	"whetstone/image"
)

// P9.3

func TestFindOfEachEnd(t *testing.T) {
	const call = 0x3fc00
	i := from(addi(5, 6, 0), stop())
	counts(t, "it stops", i, parted(t, i), every&^regs(5), every)
	i = from(addi(5, 0, 1), jalr(0, 1))
	counts(t, "a way back", i, parted(t, i), every&^regs(5), every)
	i = from(addi(5, 0, 1), jalr(1, 6), jal(0, 0))
	counts(t, "a call by a register", i, parted(t, i), every&^regs(5), 0, every, 0)
	i = from(addi(5, 0, 1), jal(1, 8), jal(0, 0), jal(0, 0))
	counts(t, "a call that comes back", i, parted(t, i), every&^regs(1, 5), 0, 0, every, 0, 0)
	i = from(jal(31, 4), jal(0, 0))
	counts(t, "a call of the next one", i, parted(t, i), every&^regs(31), 0, every, 0)
	i = from(addi(6, 0, 1), jal(2, 0), jal(0, 0))
	counts(t, "a call of itself", i, parted(t, i, 0x1004), every&^regs(2, 6), every&^regs(2), 0, every&^regs(2), every, 0)
	i = from(jal(0, 8), stop(), sw(5, 6), jal(0, -4))
	counts(t, "a jump", i, parted(t, i), regs(5, 6), regs(5, 6), regs(5, 6), regs(5, 6))
	i = from(jal(0, 0))
	counts(t, "a jump to itself", i, parted(t, i), 0, 0)
	i = from(bne(5, 6, 8), jal(0, 0), sw(7, 8), jal(0, 0))
	counts(t, "a branch", i, parted(t, i, 0x100c), regs(5, 6, 7, 8), 0, regs(7, 8), 0, regs(7, 8), 0, 0, 0)
	i = from(bne(5, 0, 4), sw(7, 8), jal(0, 0))
	counts(t, "a branch to the next one", i, parted(t, i, 0x1008), regs(5, 7, 8), regs(7, 8), 0, regs(7, 8), 0, 0)
	i = from(bne(5, 5, 0), jal(0, 0))
	counts(t, "a branch to itself", i, parted(t, i), regs(5), 0, regs(5), 0)
	i = from(ecall(), sw(5, 10), jal(0, 0))
	counts(t, "the next leader, behind a question", i, parted(t, i, 0x1004, 0x1008), call|regs(5), regs(5, 10), 0, regs(5, 10), 0, 0)
	i = from(addi(5, 6, 0), addi(7, 5, 0), jal(0, -4))
	counts(t, "the next leader", i, parted(t, i), regs(6), regs(5), regs(5), regs(5))
	i = from(lw(5, 6), addi(6, 0, 1), jal(0, 0))
	counts(t, "the next leader, behind a load", i, parted(t, i, 0x1004, 0x1008), regs(6), 0, 0, 0, 0, 0)
}

func TestFindOfQuestions(t *testing.T) {
	const call = 0x3fc00
	i := from(ecall(), jal(0, -4))
	counts(t, "again and again", i, parted(t, i), call, call)
	i = from(addi(10, 5, 0), ecall(), sw(6, 10), jal(0, -12))
	counts(t, "of what was made", i, parted(t, i), call&^regs(10)|regs(5, 6), call&^regs(10)|regs(5, 6))
	i = from(ecall(), stop())
	counts(t, "and it stops", i, parted(t, i), every, every)
}

func TestFindOfLoops(t *testing.T) {
	i := from(addi(5, 5, -1), bne(5, 6, -4), addi(10, 7, 0), jal(0, -4))
	counts(t, "a loop, then another", i, parted(t, i), regs(5, 6, 7), regs(7), regs(5, 6, 7), regs(7))
	i = from(addi(5, 0, 3), addi(6, 0, 4), addi(6, 6, -1), bne(6, 0, -4), addi(5, 5, -1), bne(5, 0, -16), add(10, 8, 9), jal(0, -4))
	counts(t, "a loop in a loop", i, parted(t, i),
		regs(8, 9), regs(5, 8, 9), regs(5, 6, 8, 9), regs(5, 8, 9), regs(8, 9),
		regs(5, 8, 9), regs(5, 6, 8, 9), regs(5, 6, 8, 9), regs(5, 8, 9), regs(8, 9))
	i = from(addi(5, 6, 0), addi(6, 7, 0), addi(7, 8, 0), addi(8, 9, 0), jal(0, -16))
	counts(t, "a register each time round", i, parted(t, i), regs(6, 7, 8, 9), regs(6, 7, 8, 9))
	i = from(bne(0, 0, 12), addi(5, 0, 1), jal(0, -8), sw(0, 5), jal(0, -16))
	counts(t, "set on one way alone", i, parted(t, i), regs(5), 0, regs(5), regs(5), regs(5), regs(5))
}

// What goes round without need keeps nothing.
func TestFindOfLoopsOfNoNeed(t *testing.T) {
	i := from(addi(5, 0, 1), jal(0, -4))
	counts(t, "one block", i, parted(t, i), 0, 0)
	counts(t, "two blocks", i, parted(t, i, 0x1004), 0, 0, 0, 0)
	i = from(jal(0, 8), jal(0, 0), jal(0, -4), jal(0, -4))
	counts(t, "to and fro", i, parted(t, i, 0x100c), 0, 0, 0, 0, 0, 0, 0, 0)
	i = from(bne(0, 0, 8), jal(0, -4), bne(0, 0, -8), jal(0, -12))
	counts(t, "round in many ways", i, parted(t, i), 0, 0, 0, 0, 0, 0, 0, 0)
	i = from(bne(5, 0, 8), jal(0, 0), addi(6, 7, 0), jal(0, -12))
	counts(t, "but for what is read", i, parted(t, i), regs(5, 7), 0, regs(5, 7), regs(5, 7), 0, regs(5, 7))
}

// One text by several lists of blocks: each of them is told, and the same
// registers count at the same places.
func TestFindOfFurtherEntries(t *testing.T) {
	i := from(addi(5, 6, 0), addi(7, 5, 0), jal(0, -8), sw(8, 9), stop())
	counts(t, "none", i, parted(t, i), regs(6), regs(6))
	counts(t, "one within", i, []api.Block{b(0x1000, 1), b(0x1004, 2)}, regs(6), regs(5, 6), regs(5, 6), regs(6))
	counts(t, "at the end", i, []api.Block{b(0x1000, 2), b(0x1008, 1)}, regs(6), regs(6), regs(6), regs(6))
	counts(t, "each", i, []api.Block{b(0x1000, 1), b(0x1004, 1), b(0x1008, 1)}, regs(6), regs(5, 6), regs(6), regs(5, 6), regs(6), regs(6))
	counts(t, "one elsewhere", i, []api.Block{b(0x1000, 3), b(0x100c, 2)}, regs(6), every, regs(6), every)
	counts(t, "one elsewhere, late", i, []api.Block{b(0x1000, 3), b(0x1010, 1)}, regs(6), every, regs(6), every)
	counts(t, "two elsewhere", i, []api.Block{b(0x1000, 3), b(0x100c, 1), b(0x1010, 1)}, regs(6), every, every, regs(6), every, every)
}

func TestFindOfOtherLists(t *testing.T) {
	i := from(addi(5, 6, 0), addi(7, 5, 0), jal(0, -8), sw(8, 9), stop())
	i.Words = append(i.Words, 0)
	refuses(t, "nil", i)
	refuses(t, "empty", i, []api.Block{}...)
	refuses(t, "fewer instructions", i, b(0x1000, 2))
	refuses(t, "more instructions", i, b(0x1000, 4))
	refuses(t, "all of the text", i, b(0x1000, 6))
	for _, n := range []int{0, -1, -3, math.MinInt, math.MaxInt, 1<<32 + 3, 1 << 32} {
		refuses(t, "another number of instructions", i, b(0x1000, n))
		refuses(t, "another number of instructions, amid", i, b(0x1000, 1), b(0x1004, n))
	}
	refuses(t, "the entry's block lacks", i, b(0x1004, 2))
	refuses(t, "the entry's block lacks, beside another", i, b(0x100c, 2))
	refuses(t, "a block ahead of the text", i, b(0xffc, 1), b(0x1000, 3))
	refuses(t, "a block behind the text", i, b(0x1000, 3), b(0x1018, 1))
	refuses(t, "a block of no instruction", i, b(0x1000, 3), b(0x1014, 1))
	for _, at := range []int{1, 2, 3, 0xfff, 0x1001, 0x1002, 0x1003, 0x1005} {
		refuses(t, "a block at an odd place", i, b(at, 3))
		refuses(t, "a block at an odd place, beside another", i, b(0x1000, 3), b(at, 1))
	}
	refuses(t, "twice", i, b(0x1000, 3), b(0x1000, 3))
	refuses(t, "blocks that meet", i, b(0x1000, 3), b(0x1004, 2))
	refuses(t, "a part of a block alone", i, b(0x1000, 1), b(0x1008, 1))
	refuses(t, "the first of two", i, b(0x1000, 1))
	refuses(t, "a gap", i, b(0x1000, 1), b(0x1004, 1))
	refuses(t, "another order", i, b(0x1004, 2), b(0x1000, 1))
	refuses(t, "another order elsewhere", i, b(0x1000, 3), b(0x1010, 1), b(0x100c, 1))
	refuses(t, "one too many", i, b(0x1000, 1), b(0x1004, 2), b(0x1004, 2))
}

// Of a text with leaders of its own.
func TestFindOfListsWithoutALeader(t *testing.T) {
	i := from(bne(5, 6, 8), addi(7, 8, 0), addi(9, 7, 0), jal(0, 0))
	l := parted(t, i)
	if !slices.Equal(l, []api.Block{b(0x1000, 1), b(0x1004, 1), b(0x1008, 1), b(0x100c, 1)}) {
		t.Fatal(l)
	}
	counts(t, "all of them", i, l, regs(5, 6, 7, 8), regs(8), regs(7), 0, regs(7, 8), regs(7), 0, 0)
	for k := range l {
		refuses(t, "one of them lacks", i, slices.Delete(slices.Clone(l), k, k+1)...)
		refuses(t, "one of them twice", i, slices.Insert(slices.Clone(l), k, l[k])...)
		for j := range k {
			m := slices.Clone(l)
			m[j], m[k] = m[k], m[j]
			refuses(t, "two of them in each other's place", i, m...)
		}
		for _, n := range []int{-1, 1} {
			m := slices.Clone(l)
			m[k].N += n
			refuses(t, "one that ends elsewhere", i, m...)
			m[k].N -= n
			m[k].At += uint32(4 * n)
			refuses(t, "one that begins elsewhere", i, m...)
		}
	}
	refuses(t, "two as one", i, b(0x1000, 1), b(0x1004, 2), b(0x100c, 1))
}

func TestFindOfTextsThatAreRefused(t *testing.T) {
	for name, i := range map[string]api.Image{
		"no words":                 {Base: 0x1000, Entry: 0x1000},
		"all 0":                    {},
		"an entry ahead":           {Base: 0x1000, Entry: 0xffc, Words: from(stop()).Words},
		"an entry behind":          {Base: 0x1000, Entry: 0x1004, Words: from(stop()).Words},
		"an odd entry":             {Base: 0x1000, Entry: 0x1002, Words: from(stop(), stop()).Words},
		"no instruction":           {Base: 0x1000, Entry: 0x1000, Words: []uint32{0}},
		"it goes on beyond":        from(addi(5, 6, 0)),
		"it jumps beyond":          from(jal(0, 4)),
		"it branches ahead":        from(bne(5, 6, -4), stop()),
		"it branches to odd ones":  from(bne(5, 6, 2), stop()),
		"it comes back beyond":     from(jalr(1, 5)),
		"it goes on over the turn": {Base: 0xfffffffc, Entry: 0xfffffffc, Words: from(addi(5, 6, 0)).Words},
	} {
		refuses(t, name, i)
		refuses(t, name, i, []api.Block{}...)
		for n := range 3 {
			refuses(t, name, i, api.Block{At: i.Entry, N: n})
			refuses(t, name, i, api.Block{At: i.Base, N: n})
			refuses(t, name, i, api.Block{At: i.Entry, N: n}, api.Block{At: i.Entry + 4, N: 1})
		}
	}
	i := from(bne(5, 6, 8), stop())
	i.Words = append(i.Words, 0)
	refuses(t, "a branch to no instruction", i, b(0x1000, 1), b(0x1004, 1))
	refuses(t, "a branch to no instruction, told", i, b(0x1000, 1), b(0x1004, 1), b(0x1008, 1))
}

func TestFindAtTheEnds(t *testing.T) {
	l := []api.Inst{sw(5, 6), bne(7, 0, -4), jal(0, 0)}
	for _, base := range []uint32{0, 4, 1<<31 - 4, 1<<31 - 8, 1 << 31, 0xfffffff4} {
		i := from(l...)
		i.Base, i.Entry, i.Seg = base, base, 3
		want := regs(5, 6, 7)
		counts(t, "a loop", i, parted(t, i), want, 0, want, 0)
		counts(t, "a loop, cut", i, parted(t, i, base+4), want, want, 0, want, want, 0)
	}
}

// A program's own text, as package image tells it.
func TestFindOfAProgram(t *testing.T) {
	// At 0x2000 Ebreak; at 0x2004 Addi x0, x0, 0; Jal x0, -8.
	x := api.Elf{Entry: 0x2004, Segs: []api.Seg{{Addr: 0x100, Size: 8, Flags: 6}, {Addr: 0x2000, Data: "\x73\x00\x10\x00\x13\x00\x00\x00\x6f\xf0\x9f\xff", Size: 12, Flags: 5}}}
	if e := elf.Check(x); e != api.OK {
		t.Fatal(e)
	}
	i, e := image.Of(x)
	if e != api.OK {
		t.Fatal(e)
	}
	counts(t, "a program", i, parted(t, i), every, every, every, every)
}

func TestFindAsModel(t *testing.T) {
	r := rand.New(rand.NewSource(93))
	few, many, loops := 0, 0, 0
	for range 5000 {
		i, l := chance(r)
		ahead, behind, e := Find(i, l)
		a, b := modelFind(i, l)
		if e != api.OK || !slices.Equal(ahead, a) || !slices.Equal(behind, b) {
			t.Fatalf("Find(%#x, %v) = %x, %x, %v; not %x, %x", i, l, ahead, behind, e, a, b)
		}
		if len(l) > 4 {
			many++
		}
		for k := range l {
			if next, _ := blocks.Next(i, l, k); ahead[k] != every && behind[k] != 0 && len(next) > 0 && next[0] <= k {
				loops++
			}
			if behind[k] != every && behind[k] != 0 {
				few++
			}
		}
	}
	if few < 5000 || many < 1500 || loops < 1500 {
		t.Error("too few texts of each sort", few, many, loops)
	}
}

// What is told holds the chapter's own rules, block by block.
func TestFindHoldsTheRules(t *testing.T) {
	r := rand.New(rand.NewSource(193))
	for range 10000 {
		i, l := chance(r)
		ahead, behind, _ := Find(i, l)
		for k, c := range l {
			var x []api.Inst
			for n := range c.N {
				x = append(x, stands(i, c.At+4*uint32(n)))
			}
			want := uint32(0)
			next, away := blocks.Next(i, l, k)
			for _, n := range next {
				want |= ahead[n]
			}
			end := x[len(x)-1]
			if away || end.Op == api.Ebreak || end.Op == api.Jal && end.Rd != 0 || end.Op == api.Jalr && end.Rd != 0 {
				want = every
			}
			if behind[k] != want || ahead[k] != Back(x, want) {
				t.Fatalf("block %d of %v: %x, %x; not %x, %x", k, l, ahead[k], behind[k], Back(x, want), want)
			}
		}
	}
}

// Lists that are nearly a text's: told only if blocks.Find tells them, too.
func TestFindOfChangedLists(t *testing.T) {
	r := rand.New(rand.NewSource(293))
	seen := [2]int{}
	for range 20000 {
		i, l := chance(r)
		m := changed(r, l)
		var entries []uint32
		for _, c := range m {
			entries = append(entries, c.At)
		}
		want, e := blocks.Find(i, entries)
		if e != api.OK || !slices.Equal(want, m) {
			seen[0]++
			refuses(t, "a changed list", i, m...)
			continue
		}
		seen[1]++
		a, b := modelFind(i, m)
		counts(t, "a changed list", i, m, append(a, b...)...)
	}
	if seen[0] < 5000 || seen[1] < 1000 {
		t.Error("too few lists of each sort", seen)
	}
}

// changed is a list of blocks with one of them changed.
func changed(r *rand.Rand, l []api.Block) []api.Block {
	m, k := slices.Clone(l), r.Intn(len(l))
	c := m[k]
	switch n := r.Intn(c.N + 1); r.Intn(8) {
	case 0:
		return slices.Delete(m, k, k+1)
	case 1:
		return slices.Insert(m, k, c)
	case 2:
		m[k].N += r.Intn(5) - 2
	case 3:
		m[k].At += uint32(4*r.Intn(5) - 8)
	case 4:
		j := r.Intn(len(m))
		m[j], m[k] = m[k], m[j]
	case 5:
		return append(m, api.Block{At: c.At + 4*uint32(c.N), N: 1})
	default:
		m[k].N = n
		m = slices.Insert(m, k+1, api.Block{At: c.At + 4*uint32(n), N: c.N - n})
	}
	return m
}

// A text of which each block jumps to the one in front of it ends soon, too.
func TestFindOfLongWays(t *testing.T) {
	const n = 200000
	i := from(sw(5, 6), jal(0, -4))
	for range n {
		i.Words = append(i.Words, word(addi(7, 0, 1)), word(jal(0, -12)))
	}
	i.Entry = i.Base + 8*n
	l := parted(t, i)
	ahead, behind, e := Find(i, l)
	if e != api.OK || len(l) != n+1 {
		t.Fatal(e, len(l))
	}
	for k := range l {
		if ahead[k] != regs(5, 6) || behind[k] != regs(5, 6) {
			t.Fatalf("block %d: %x, %x", k, ahead[k], behind[k])
		}
	}
}

// The same with the blocks in any order, and more registers that count further ahead.
func TestFindOfBlocksInAnyOrder(t *testing.T) {
	r := rand.New(rand.NewSource(393))
	const n = 3000
	places := r.Perm(n)
	i := api.Image{Base: 0x1000, Entry: 0x1000 + 8*uint32(places[0]), Words: make([]uint32, 2*n)}
	want := map[uint32]uint32{}
	after := uint32(0)
	for k := n - 1; k >= 0; k-- {
		x := addi(0, 0, 0)
		if k%100 == 0 {
			x = addi(0, k/100+1, 0)
			after |= regs(k/100 + 1)
		}
		at := places[k]
		to := places[min(k+1, n-1)]
		i.Words[2*at], i.Words[2*at+1] = word(x), word(jal(0, 8*(to-at)-4))
		want[0x1000+8*uint32(at)] = after
	}
	l := parted(t, i)
	ahead, _, e := Find(i, l)
	if e != api.OK || len(l) != n {
		t.Fatal(e, len(l))
	}
	for k, c := range l {
		if ahead[k] != want[c.At] {
			t.Fatalf("ahead of block %d: %x; not %x", k, ahead[k], want[c.At])
		}
	}
}

func TestFindOfOneLongBlock(t *testing.T) {
	var x []api.Inst
	for k := range 100000 {
		x = append(x, add(k%7+1, k%5+8, k%3+20))
	}
	i := from(append(x, stop())...)
	counts(t, "one long block", i, parted(t, i), every&^regs(1, 2, 3, 4, 5, 6, 7), every)
}
