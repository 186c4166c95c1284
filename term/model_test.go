package term

import (
	"math"
	"math/rand"
	"testing"

	"whetstone/api"
	"whetstone/word"
)

// A second reading of the chapter: terms stand in a list, in the order in which
// they are made, and each is looked for from the first one on; what they come
// to, and what they need, is told of all of them, from the first one on.

// reckonings are the kinds of chapter 1's table.
func reckonings() []int {
	return []int{
		api.Add, api.Sub, api.Mul, api.And, api.Or, api.Xor, api.Sll, api.Srl, api.Sra, api.Slt, api.Sltu,
		api.Mulh, api.Mulhu, api.Mulhsu, api.Div, api.Rem, api.Divu, api.Remu,
	}
}

func isReckoning(op int) bool {
	for _, k := range reckonings() {
		if k == op {
			return true
		}
	}
	return false
}

type model struct{ l []api.Term }

func (m *model) there(n int) bool { return n >= 0 && n < len(m.l) }

func (m *model) make(t api.Term) int {
	for n, x := range m.l {
		if x.Kind == t.Kind && x.V == t.V && x.Op == t.Op && x.A == t.A && x.B == t.B {
			return n
		}
	}
	m.l = append(m.l, t)
	return len(m.l) - 1
}

func (m *model) word(v uint32) int { return m.make(api.Term{Kind: api.TermConst, V: v}) }

func (m *model) register(r int) (int, api.Errno) {
	if r < 0 || r >= 32 {
		return 0, api.ErrArg
	}
	if r == 0 {
		return m.word(0), api.OK
	}
	return m.make(api.Term{Kind: api.TermVar, V: uint32(r)}), api.OK
}

func (m *model) reckoning(op, a, b int) (int, api.Errno) {
	if !m.there(a) || !m.there(b) {
		return 0, api.ErrTermNode
	}
	if !isReckoning(op) {
		return 0, api.ErrArg
	}
	return m.make(api.Term{Kind: api.TermOp, Op: op, A: a, B: b}), api.OK
}

// values are what all terms come to; needed are their registers.
func (m *model) values(x [32]uint32) []uint32 {
	l := make([]uint32, len(m.l))
	for n, t := range m.l {
		switch t.Kind {
		case api.TermConst:
			l[n] = t.V
		case api.TermVar:
			l[n] = x[t.V]
		case api.TermOp:
			l[n], _ = word.Do(t.Op, l[t.A], l[t.B])
		}
	}
	return l
}

func (m *model) needed() []uint32 {
	l := make([]uint32, len(m.l))
	for n, t := range m.l {
		for r := range 32 {
			has := t.Kind == api.TermVar && t.V == uint32(r)
			if t.Kind == api.TermOp {
				has = l[t.A]>>r&1 == 1 || l[t.B]>>r&1 == 1
			}
			if has {
				l[n] += 1 << r
			}
		}
	}
	return l
}

func (m *model) copy() *model {
	return &model{l: append([]api.Term{}, m.l...)}
}

// someRegisters are registers without a shape, the register 0 too: no term needs it.
func someRegisters(r *rand.Rand) [32]uint32 {
	var x [32]uint32
	for k := range x {
		x[k] = r.Uint32()
		if r.Intn(3) == 0 {
			x[k] = edges()[r.Intn(len(edges()))]
		}
	}
	return x
}

func edges() []uint32 {
	return []uint32{0, 1, 2, 5, 31, 32, 33, 0xff, 1 << 16, 0x7fffffff, 0x80000000, 0x80000001, 0xfffffffe, 0xffffffff}
}

// noTerms are numbers that are none of n terms.
func noTerms(n int) []int {
	return []int{n, n + 1, n + 31, 1<<31 + n, 1 << 32, 1<<32 + n, math.MaxInt, -1, -2, -n - 1, -1 << 32, n - 1<<32, math.MinInt}
}

// match holds all that a Dag tells against what it must tell.
func match(t *testing.T, d *Dag, m *model, x [32]uint32) {
	t.Helper()
	if d.Len() != len(m.l) {
		t.Fatalf("Len: %d, not %d", d.Len(), len(m.l))
	}
	values, needed := m.values(x), m.needed()
	for n, want := range m.l {
		if got, e := d.Node(n); got != want || e != api.OK {
			t.Fatalf("Node(%d): %v, %d, not %v", n, got, e, want)
		}
		if v, e := d.Eval(n, x); v != values[n] || e != api.OK {
			t.Fatalf("Eval(%d) of %v: %#x, %d, not %#x", n, want, v, e, values[n])
		}
		if v, e := d.Vars(n); v != needed[n] || e != api.OK {
			t.Fatalf("Vars(%d) of %v: %#x, %d, not %#x", n, want, v, e, needed[n])
		}
	}
	for _, n := range noTerms(len(m.l)) {
		none(t, d, n)
	}
}

// none holds a Dag to it that there is no term of a number.
func none(t *testing.T, d *Dag, n int) {
	t.Helper()
	if got, e := d.Node(n); got != (api.Term{}) || e != api.ErrTermNode {
		t.Fatalf("Node(%d) of %d: %v, %d", n, d.Len(), got, e)
	}
	if v, e := d.Eval(n, [32]uint32{1, 1, 1}); v != 0 || e != api.ErrTermNode {
		t.Fatalf("Eval(%d) of %d: %#x, %d", n, d.Len(), v, e)
	}
	if v, e := d.Vars(n); v != 0 || e != api.ErrTermNode {
		t.Fatalf("Vars(%d) of %d: %#x, %d", n, d.Len(), v, e)
	}
}
