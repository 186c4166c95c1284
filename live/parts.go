package live

import (
	"slices"

	"whetstone/api"
	"whetstone/blocks"
	"whetstone/image"
	"whetstone/inst"
)

// wordSize is how many bytes a word has.
const wordSize = 4

// Registers as words: all but the register 0, those that a call hands to the
// outside, and the one in which the outside answers.
const (
	all      = 1<<32 - 2
	asked    = 1<<18 - 1<<10
	answered = 1 << 10
)

// bit is a register as a word; none, if it is the register 0.
func bit(r int) uint32 {
	return 1 << r & all
}

// found tells whether blocks are a text's, if each of them begins at an entry.
func found(i api.Image, l []api.Block) bool {
	entries := make([]uint32, len(l))
	for k, b := range l {
		entries[k] = b.At
	}
	m, e := blocks.Find(i, entries)
	return e == api.OK && slices.Equal(l, m)
}

// listed are a block's instructions; blocks.Find saw that each of them is one.
func listed(i api.Image, b api.Block) []api.Inst {
	l := make([]api.Inst, b.N)
	for n := range l {
		w, _ := image.At(i, b.At+wordSize*uint32(n))
		l[n], _ = inst.Decode(w)
	}
	return l
}

// leaves tells whether a block's last instruction stops, or is a call: who
// goes on then may ask for each register.
func leaves(x api.Inst) bool {
	switch x.Op {
	case api.Ebreak:
		return true
	case api.Jal, api.Jalr:
		return x.Rd != 0
	}
	return false
}

// part is a block as far as registers count: which ones it needs whatever
// counts behind it, which ones it may need at most, which blocks come behind
// and ahead of it, and whether it waits to be gone over.
type part struct {
	needs, most  uint32
	next, before []int
	waits        bool
}

// flow is what is known to count ahead of each block, and behind it.
type flow struct {
	ahead, behind []uint32
	parts         []part
	wait          []int
}

// flowOf is the flow in which nothing is known yet, but behind the blocks that
// are left for where the text does not tell; all of the blocks wait.
func flowOf(i api.Image, l []api.Block) flow {
	f := flow{
		ahead:  make([]uint32, len(l)),
		behind: make([]uint32, len(l)),
		parts:  make([]part, len(l)),
	}
	for k, b := range l {
		x := listed(i, b)
		next, away := blocks.Next(i, l, k)
		if away || leaves(x[len(x)-1]) {
			f.behind[k] = all
		}
		p := &f.parts[k]
		p.needs, p.most, p.next = Back(x, 0), Back(x, all), next
		for _, n := range next {
			f.parts[n].before = append(f.parts[n].before, k)
		}
		f.await(k)
	}
	return f
}

// await has a block gone over, once more if need be.
func (f *flow) await(k int) {
	if !f.parts[k].waits {
		f.parts[k].waits = true
		f.wait = append(f.wait, k)
	}
}

// take is the block that is gone over next: the last one of those that wait,
// since what counts comes from behind.
func (f *flow) take() (int, bool) {
	if len(f.wait) == 0 {
		return 0, false
	}
	k := f.wait[len(f.wait)-1]
	f.wait = f.wait[:len(f.wait)-1]
	f.parts[k].waits = false
	return k, true
}

// raise adds what counts ahead of the blocks behind block k to what counts
// behind it, and tells whether more counts ahead of it then. Its instructions
// are not gone through again: a register that counts behind them makes no
// other one count ahead of them.
func (f *flow) raise(k int) bool {
	p := f.parts[k]
	for _, n := range p.next {
		f.behind[k] |= f.ahead[n]
	}
	before := f.ahead[k]
	f.ahead[k] = p.needs | p.most&f.behind[k]
	return f.ahead[k] != before
}

// settle goes over blocks until nothing changes. Only those ahead of one that
// changed are gone over again: a text of which each block jumps to the one in
// front of it would else be gone over as often as it has blocks. Since
// registers are added alone, from none on, they are the least ones.
func (f *flow) settle() {
over:
	for {
		k, is := f.take()
		switch {
		case !is:
			break over
		case f.raise(k):
			for _, b := range f.parts[k].before {
				f.await(b)
			}
		}
	}
}
