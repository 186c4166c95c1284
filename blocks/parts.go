package blocks

import (
	"cmp"
	"slices"

	"whetstone/api"
	"whetstone/image"
	"whetstone/inst"
)

// wordSize is how many bytes a word has.
const wordSize = 4

// jumps tells whether a program may go on where an instruction's number tells.
func jumps(x api.Inst) bool {
	return inst.Right(x) && (x.Op == api.Jal || inst.Form(x.Op) == 'B')
}

// goesOn tells whether a program may go on at the next address: it does behind
// a jump that keeps its place, too, since what is called comes back.
func goesOn(x api.Inst) bool {
	switch x.Op {
	case api.Jal, api.Jalr:
		return inst.Right(x) && x.Rd != 0
	case api.Ebreak:
		return false
	}
	return inst.Right(x)
}

// place is a reached address: why no instruction stands there, if none does;
// else whether one that ends a block does. leads tells whether it is a leader.
type place struct {
	e           api.Errno
	ends, leads bool
}

// stands is the instruction at an address of a text.
func stands(i api.Image, at uint32) (api.Inst, api.Errno) {
	w, is := image.At(i, at)
	if !is {
		return api.Inst{}, api.ErrBlocksAway
	}
	x, e := inst.Decode(w)
	if e != api.OK {
		return api.Inst{}, api.ErrBlocksWord
	}
	return x, api.OK
}

// reached are all reached addresses. What is known to be reached, but not yet
// looked at, waits in a list: a text may be too long for calls within calls.
func reached(i api.Image, entries []uint32) map[uint32]place {
	r := map[uint32]place{}
	var wait []uint32
	reach := func(at uint32, leads bool) {
		p, known := r[at]
		if !known {
			wait = append(wait, at)
		}
		p.leads = p.leads || leads
		r[at] = p
	}
	reach(i.Entry, true)
	for _, at := range entries {
		reach(at, true)
	}
	for len(wait) > 0 {
		at := wait[len(wait)-1]
		wait = wait[:len(wait)-1]
		p := r[at]
		x, e := stands(i, at)
		p.e, p.ends = e, Ends(x)
		r[at] = p
		if e != api.OK {
			continue
		}
		for _, a := range After(x, at) {
			reach(a, p.ends)
		}
	}
	return r
}

// last is the address of a block's last instruction.
func last(b api.Block) uint32 {
	return b.At + wordSize*uint32(b.N-1)
}

// begins is the number of the block that begins at an address; the blocks rise.
func begins(l []api.Block, at uint32) (int, bool) {
	return slices.BinarySearchFunc(l, at, func(b api.Block, at uint32) int {
		return cmp.Compare(b.At, at)
	})
}
