package blocks

import (
	"math/rand"
	"slices"

	"whetstone/api"
	"whetstone/inst"
)

// A second reading of the chapter: addresses are whole numbers, which are
// brought below 2^32 where they are told; what is reached grows by rounds over
// all that is reached; and a block is found from each of its addresses by
// going back to its leader.

const turn = 1 << 32

// groups are the kinds by where a program goes behind them.
func groups() map[int]string {
	m := map[int]string{}
	for _, op := range []int{api.Beq, api.Bne, api.Blt, api.Bge, api.Bltu, api.Bgeu} {
		m[op] = "both"
	}
	for _, op := range []int{
		api.Lui, api.Auipc, api.Lb, api.Lh, api.Lw, api.Lbu, api.Lhu, api.Sb, api.Sh, api.Sw,
		api.Addi, api.Slti, api.Sltiu, api.Xori, api.Ori, api.Andi, api.Slli, api.Srli, api.Srai,
		api.Add, api.Sub, api.Sll, api.Slt, api.Sltu, api.Xor, api.Srl, api.Sra, api.Or, api.And,
		api.Mul, api.Mulh, api.Mulhsu, api.Mulhu, api.Div, api.Divu, api.Rem, api.Remu, api.Ecall,
	} {
		m[op] = "on"
	}
	m[api.Jal], m[api.Jalr], m[api.Ebreak] = "there", "away", "stop"
	return m
}

// modelAfter is where a right instruction leads to, and whether a block ends behind it.
func modelAfter(x api.Inst, at int) ([]int, bool) {
	on, there := (at+4)%turn, (at+x.Imm+turn)%turn
	var l []int
	ends := true
	switch groups()[x.Op] {
	case "both":
		l = []int{min(on, there), max(on, there)}
	case "on":
		l, ends = []int{on}, false
	case "there":
		l = []int{there}
		if x.Rd > 0 {
			l = []int{min(on, there), max(on, there)}
		}
	case "away":
		if x.Rd > 0 {
			l = []int{on}
		}
	}
	if len(l) == 2 && l[0] == l[1] {
		l = l[:1]
	}
	return l, ends
}

// modelStands is the instruction at an address of a text that stays below 2^32.
func modelStands(i api.Image, at int) (api.Inst, api.Errno) {
	for k, w := range i.Words {
		if int(i.Base)+4*k == at {
			x, e := inst.Decode(w)
			if e != api.OK {
				return api.Inst{}, api.ErrBlocksWord
			}
			return x, api.OK
		}
	}
	return api.Inst{}, api.ErrBlocksAway
}

// modelReached are the reached addresses and the leaders among them.
func modelReached(i api.Image, entries []uint32) (map[int]bool, map[int]bool) {
	all, leaders := map[int]bool{int(i.Entry): true}, map[int]bool{int(i.Entry): true}
	for _, a := range entries {
		all[int(a)], leaders[int(a)] = true, true
	}
	for before := -1; before != len(all)+len(leaders); {
		before = len(all) + len(leaders)
		for _, at := range keys(all) {
			x, e := modelStands(i, at)
			if e != api.OK {
				continue
			}
			l, ends := modelAfter(x, at)
			for _, a := range l {
				all[a] = true
				if ends {
					leaders[a] = true
				}
			}
		}
	}
	return all, leaders
}

func keys(m map[int]bool) []int {
	var l []int
	for k := range m {
		l = append(l, k)
	}
	slices.Sort(l)
	return l
}

func modelFind(i api.Image, entries []uint32) ([]api.Block, api.Errno) {
	all, leaders := modelReached(i, entries)
	for _, at := range keys(all) {
		if _, e := modelStands(i, at); e != api.OK {
			return nil, e
		}
	}
	n := map[int]int{}
	for at := range all {
		first := at
		for !leaders[first] {
			first -= 4
		}
		n[first]++
	}
	var l []api.Block
	for _, at := range keys(leaders) {
		l = append(l, api.Block{At: uint32(at), N: n[at]})
	}
	return l, api.OK
}

func modelNext(i api.Image, l []api.Block, k int) ([]int, bool) {
	if k < 0 || k >= len(l) {
		return nil, false
	}
	at := int(l[k].At) + 4*(l[k].N-1)
	x, _ := modelStands(i, at)
	after, _ := modelAfter(x, at)
	var next []int
	for j, b := range l {
		if slices.Contains(after, int(b.At)) {
			next = append(next, j)
		}
	}
	return next, x.Op == api.Jalr
}

// chance is a text of which most words are instructions that lead to others of
// it, and addresses of which most are its own.
func chance(r *rand.Rand) (api.Image, []uint32) {
	n := 1 + r.Intn(14)
	base := []uint32{0, 0x1000, 1<<31 - 8, uint32(turn - 4*n), uint32(turn - 4*n - 8)}[r.Intn(5)]
	i := api.Image{Base: base, Entry: base + 4*uint32(r.Intn(n)), Seg: r.Intn(3)}
	for k := range n {
		i.Words = append(i.Words, chanceWord(r, k, n))
	}
	if r.Intn(3) > 0 {
		i.Words[n-1] = word(api.Inst{Op: api.Ebreak})
	}
	if r.Intn(16) == 0 {
		i.Entry = base + uint32(r.Intn(4*n+24)) - 12
	}
	var entries []uint32
	for r.Intn(2) == 0 {
		entries = append(entries, base+4*uint32(r.Intn(n)))
	}
	if r.Intn(16) == 0 {
		entries = append(entries, base+uint32(r.Intn(4*n+24))-12)
	}
	return i, entries
}

// chanceWord is a word for the place k of n.
func chanceWord(r *rand.Rand, k, n int) uint32 {
	there := 4 * (r.Intn(n) - k)
	if r.Intn(24) == 0 {
		there += r.Intn(8) - 4
	}
	there &^= 1
	switch r.Intn(13) {
	case 0, 1, 2:
		return word(api.Inst{Op: api.Beq + r.Intn(6), Rs1: r.Intn(32), Rs2: r.Intn(32), Imm: there})
	case 3, 4:
		return word(api.Inst{Op: api.Jal, Rd: r.Intn(3), Imm: there})
	case 5:
		return word(api.Inst{Op: api.Jalr, Rd: r.Intn(2), Rs1: r.Intn(32), Imm: r.Intn(4096) - 2048})
	case 6:
		return word(api.Inst{Op: api.Ebreak})
	case 7:
		return word(api.Inst{Op: api.Ecall})
	case 8:
		if r.Intn(6) == 0 {
			return []uint32{0, 0xffffffff, 0x00200073, 0x00001067}[r.Intn(4)]
		}
	}
	return word(api.Inst{Op: api.Addi + r.Intn(6), Rd: r.Intn(32), Rs1: r.Intn(32), Imm: r.Intn(4096) - 2048})
}
