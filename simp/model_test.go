package simp

import (
	"math/rand"
	"testing"

	"whetstone/api"
	"whetstone/term"
	"whetstone/word"
)

// A second reading of the chapter, kind by kind: what each one becomes is asked
// for by calls within calls; terms stand in a list, and each is looked for from
// the first one on.

type model struct{ l []api.Term }

func (m *model) make(t api.Term) int {
	for n, x := range m.l {
		if x == t {
			return n
		}
	}
	m.l = append(m.l, t)
	return len(m.l) - 1
}

func (m *model) word(v uint32) int { return m.make(api.Term{Kind: api.TermConst, V: v}) }

func (m *model) there(n int) bool { return n >= 0 && n < len(m.l) }

func (m *model) isWord(n int) bool { return m.l[n].Kind == api.TermConst }

func (m *model) raw(op, a, b int) int {
	return m.make(api.Term{Kind: api.TermOp, Op: op, A: a, B: b})
}

func (m *model) asked(op, a, b int) (int, api.Errno) {
	if !m.there(a) || !m.there(b) {
		return 0, api.ErrTermNode
	}
	if _, e := word.Do(op, 1, 1); e != api.OK {
		return 0, api.ErrArg
	}
	return m.op(op, a, b), api.OK
}

func (m *model) op(op, a, b int) int {
	if m.isWord(a) && m.isWord(b) {
		v, _ := word.Do(op, m.l[a].V, m.l[b].V)
		return m.word(v)
	}
	switch op {
	case api.Add, api.And, api.Or, api.Xor, api.Mul, api.Mulh, api.Mulhu:
		if m.isWord(a) || !m.isWord(b) && a > b {
			a, b = b, a
		}
	}
	if m.isWord(b) {
		return m.byWord(op, a, b, m.l[b].V)
	}
	if a != b {
		return m.raw(op, a, b)
	}
	switch op {
	case api.Sub, api.Xor, api.Slt, api.Sltu:
		return m.word(0)
	case api.And, api.Or:
		return a
	case api.Add:
		return m.op(api.Sll, a, m.word(1))
	}
	return m.raw(op, a, a)
}

func (m *model) byWord(op, a, b int, v uint32) int {
	switch op {
	case api.Sub:
		return m.op(api.Add, a, m.word(0-v))
	case api.Add, api.Xor:
		if v == 0 {
			return a
		}
		return m.joined(op, a, b)
	case api.Or:
		if v == 0 {
			return a
		}
		if v == 0xffffffff {
			return b
		}
		return m.joined(op, a, b)
	case api.And:
		if v == 0xffffffff {
			return a
		}
		if v == 0 {
			return b
		}
		return m.joined(op, a, b)
	case api.Mul:
		if v == 0 {
			return b
		}
		if v == 1 {
			return a
		}
		if k := powerOf(v); k > 0 {
			return m.op(api.Sll, a, m.word(k))
		}
	case api.Div:
		if v == 1 {
			return a
		}
	case api.Rem:
		if v == 1 {
			return m.word(0)
		}
	case api.Divu:
		if v == 1 {
			return a
		}
		if k := powerOf(v); k > 0 {
			return m.op(api.Srl, a, m.word(k))
		}
	case api.Remu:
		if v == 1 {
			return m.word(0)
		}
		if powerOf(v) > 0 {
			return m.op(api.And, a, m.word(v-1))
		}
	case api.Sltu:
		if v == 0 {
			return b
		}
	case api.Sll, api.Srl, api.Sra:
		return m.shifted(op, a, b, v)
	}
	return m.raw(op, a, b)
}

// powerOf is k of 2^k, 0 of others.
func powerOf(v uint32) uint32 {
	for k := uint32(1); k < 32; k++ {
		if v == 1<<k {
			return k
		}
	}
	return 0
}

func (m *model) joined(op, a, b int) int {
	x := m.l[a]
	if x.Kind != api.TermOp || x.Op != op || !m.isWord(x.B) {
		return m.raw(op, a, b)
	}
	return m.op(op, x.A, m.op(op, x.B, b))
}

func (m *model) shifted(op, a, b int, v uint32) int {
	if v&31 == 0 {
		return a
	}
	if v > 31 {
		return m.op(op, a, m.word(v&31))
	}
	x := m.l[a]
	if x.Kind != api.TermOp || x.Op != op || !m.isWord(x.B) || m.l[x.B].V == 0 || m.l[x.B].V >= 32 {
		return m.raw(op, a, b)
	}
	far := m.l[x.B].V + v
	if far <= 31 {
		return m.op(op, x.A, m.word(far))
	}
	if op == api.Sra {
		return m.op(op, x.A, m.word(31))
	}
	return m.word(0)
}

func (m *model) all(n int) (int, api.Errno) {
	if !m.there(n) {
		return 0, api.ErrTermNode
	}
	x := m.l[n]
	if x.Kind != api.TermOp {
		return n, api.OK
	}
	a, _ := m.all(x.A)
	b, _ := m.all(x.B)
	return m.op(x.Op, a, b), api.OK
}

// match holds all terms that there are against the model's.
func match(t *testing.T, d *term.Dag, m *model) {
	t.Helper()
	if d.Len() != len(m.l) {
		t.Fatalf("%d terms, not %d", d.Len(), len(m.l))
	}
	for n, want := range m.l {
		if x, e := d.Node(n); x != want || e != api.OK {
			t.Fatalf("the term %d: %v, %d, not %v", n, x, e, want)
		}
	}
}

func reckonings() []int {
	return []int{
		api.Add, api.Sub, api.Mul, api.And, api.Or, api.Xor, api.Sll, api.Srl, api.Sra, api.Slt, api.Sltu,
		api.Mulh, api.Mulhu, api.Mulhsu, api.Div, api.Rem, api.Divu, api.Remu,
	}
}

// edges are words at which a rule begins or ends.
func edges() []uint32 {
	l := []uint32{0, 1, 2, 3, 7, 31, 32, 33, 63, 64, 65, 96, 1 << 31, 1<<31 + 1, 1<<31 - 1, 0xfffffffe, 0xffffffff, 0xffffffe0, 0xffffffe1}
	for k := range 32 {
		l = append(l, 1<<k)
	}
	return l
}

// someRegisters are registers without a shape, the register 0 too: no term needs it.
func someRegisters(r *rand.Rand) [32]uint32 {
	var x [32]uint32
	for k := range x {
		x[k] = r.Uint32() >> r.Intn(32)
		if r.Intn(3) == 0 {
			x[k] = edges()[r.Intn(len(edges()))]
		}
	}
	return x
}
