package term

import (
	"testing"

	"whetstone/api"
	"whetstone/word"
)

// comes holds what a term comes to against what it must.
func comes(t *testing.T, d *Dag, n int, x [32]uint32, want uint32) {
	t.Helper()
	if v, e := d.Eval(n, x); v != want || e != api.OK {
		t.Fatalf("Eval(%d): %#x, %d, not %#x", n, v, e, want)
	}
}

// needs holds a term's registers against those that they must be.
func needs(t *testing.T, d *Dag, n int, want uint32) {
	t.Helper()
	if v, e := d.Vars(n); v != want || e != api.OK {
		t.Fatalf("Vars(%d): %#x, %d, not %#x", n, v, e, want)
	}
}

// registers is a new one with the registers 0 to 31: the number of a register is its term's.
func registers(t *testing.T) *Dag {
	d := New()
	for r := range 32 {
		if n := made(t)(d.Var(r)); n != r {
			t.Fatalf("the register %d is the term %d", r, n)
		}
	}
	return d
}

// P10.2

func TestLenAndNodeOfNone(t *testing.T) {
	d := New()
	match(t, d, &model{}, [32]uint32{})
	for n := -40; n < 40; n++ {
		none(t, d, n)
	}
}

func TestNodeOfEachKind(t *testing.T) {
	d := New()
	for n, want := range []api.Term{
		{Kind: api.TermConst, V: 0xfffffffb},
		{Kind: api.TermVar, V: 31},
		{Kind: api.TermVar, V: 1},
		{Kind: api.TermConst},
		{Kind: api.TermOp, Op: api.Sub, A: 2, B: 1},
		{Kind: api.TermOp, Op: api.Add},
		{Kind: api.TermOp, Op: api.Remu, A: 4, B: 5},
	} {
		switch want.Kind {
		case api.TermConst:
			d.Const(want.V)
		case api.TermVar:
			made(t)(d.Var(int(want.V)))
		case api.TermOp:
			made(t)(d.Op(want.Op, want.A, want.B))
		}
		for range 2 {
			if x, e := d.Node(n); x != want || e != api.OK {
				t.Errorf("Node(%d): %v, %d, not %v", n, x, e, want)
			}
		}
		for _, n := range noTerms(n + 1) {
			none(t, d, n)
		}
	}
}

func TestEvalOfWordsAndRegisters(t *testing.T) {
	d := registers(t)
	x := [32]uint32{0: 99}
	for r := 1; r < 32; r++ {
		x[r] = 0x9e3779b9 * uint32(r)
	}
	comes(t, d, 0, x, 0)
	for r := 1; r < 32; r++ {
		comes(t, d, r, x, x[r])
		comes(t, d, r, [32]uint32{}, 0)
	}
	for _, v := range edges() {
		comes(t, d, d.Const(v), x, v)
	}
}

func TestEvalOfEachReckoning(t *testing.T) {
	for _, op := range reckonings() {
		d := registers(t)
		n := made(t)(d.Op(op, 7, 9))
		back := made(t)(d.Op(op, 9, 7))
		self := made(t)(d.Op(op, 7, 7))
		for _, a := range edges() {
			for _, b := range edges() {
				x := [32]uint32{0: 5, 7: a, 8: 3, 9: b, 10: 4}
				ab, _ := word.Do(op, a, b)
				ba, _ := word.Do(op, b, a)
				aa, _ := word.Do(op, a, a)
				comes(t, d, n, x, ab)
				comes(t, d, back, x, ba)
				comes(t, d, self, x, aa)
			}
		}
	}
}

func TestEvalByHand(t *testing.T) {
	d := registers(t)
	eight, minus := d.Const(8), d.Const(0xfffffff8)
	sum := made(t)(d.Op(api.Add, 10, eight))
	less := made(t)(d.Op(api.Sub, sum, 11))
	product := made(t)(d.Op(api.Mul, less, less))
	shifted := made(t)(d.Op(api.Sra, minus, 10))
	below := made(t)(d.Op(api.Slt, shifted, product))
	nothing := made(t)(d.Op(api.Divu, product, 0))
	for _, y := range []struct {
		a, b                   uint32
		sum, less, product, sh uint32
		below                  uint32
	}{
		{1, 2, 9, 7, 49, 0xfffffffc, 1},
		{0, 0, 8, 8, 64, 0xfffffff8, 1},
		{0xfffffff8, 1, 0, 0xffffffff, 1, 0xffffffff, 1},
		{2, 0, 10, 10, 100, 0xfffffffe, 1},
		{0x7ffffff8, 0x7fff0000, 0x80000000, 0x10000, 0, 0xffffffff, 1},
		{32, 40, 40, 0, 0, 0xfffffff8, 1},
		{0xffff, 1, 0x10007, 0x10006, 0x000c0024, 0xffffffff, 1},
		{0x8000, 0x3000, 0x8008, 0x5008, 0x19050040, 0xfffffff8, 1},
		{0x8000, 0xffff8008, 0x8008, 0x10000, 0, 0xfffffff8, 1},
		{0x8000, 0xffff7008, 0x8008, 0x11000, 0x21000000, 0xfffffff8, 1},
		{0, 0xffff4b03, 8, 0xb505, 0x80001219, 0xfffffff8, 0},
	} {
		x := [32]uint32{0: 1, 10: y.a, 11: y.b}
		comes(t, d, sum, x, y.sum)
		comes(t, d, less, x, y.less)
		comes(t, d, product, x, y.product)
		comes(t, d, shifted, x, y.sh)
		comes(t, d, below, x, y.below)
		comes(t, d, nothing, x, 0xffffffff)
	}
}

func TestVarsOfEachRegister(t *testing.T) {
	d := registers(t)
	needs(t, d, 0, 0)
	for r := 1; r < 32; r++ {
		needs(t, d, r, 1<<r)
	}
	all := 0
	for r := range 32 {
		all = made(t)(d.Op(api.Or, all, r))
	}
	needs(t, d, all, 0xfffffffe)
	for _, v := range edges() {
		needs(t, d, d.Const(v), 0)
	}
}

// The term 0 is what the number of a part would be that a word and a register do not have.
func TestTermNoughtIsNoPartOfOthers(t *testing.T) {
	d := New()
	made(t)(d.Var(5))
	w := d.Const(6)
	r := made(t)(d.Var(7))
	needs(t, d, w, 0)
	needs(t, d, r, 1<<7)
	sum := made(t)(d.Op(api.Add, w, r))
	needs(t, d, sum, 1<<7)
	both := made(t)(d.Op(api.Add, 0, w))
	needs(t, d, both, 1<<5)
	needs(t, d, made(t)(d.Op(api.Sub, both, w)), 1<<5)
	needs(t, d, made(t)(d.Op(api.Sub, both, sum)), 1<<5+1<<7)
	comes(t, d, w, [32]uint32{5: 100, 7: 200}, 6)
	comes(t, d, sum, [32]uint32{5: 100, 7: 200}, 206)
}

// A register in a term is one of its Vars, even if the term comes to the same whatever it is.
func TestVarsThatMakeNoDifference(t *testing.T) {
	d := registers(t)
	for _, op := range reckonings() {
		needs(t, d, made(t)(d.Op(op, 3, 3)), 8)
		needs(t, d, made(t)(d.Op(op, 3, 0)), 8)
		needs(t, d, made(t)(d.Op(op, 0, 31)), 1<<31)
		needs(t, d, made(t)(d.Op(op, 0, 0)), 0)
		needs(t, d, made(t)(d.Op(op, 1, 31)), 1<<31+2)
		needs(t, d, made(t)(d.Op(op, 31, 1)), 1<<31+2)
	}
}

// Of a term that doubles itself so often there are more ways to the register than could ever be gone.
func TestSharedParts(t *testing.T) {
	d := New()
	n := made(t)(d.Var(4))
	three := d.Const(3)
	want := uint32(7)
	for range 3000 {
		half := n
		n = made(t)(d.Op(api.Add, half, half))
		n = made(t)(d.Op(api.Mul, n, n))
		n = made(t)(d.Op(api.Xor, n, half))
		n = made(t)(d.Op(api.Add, n, three))
		h := want
		want = (h+h)*(h+h) ^ h + 0
		want += 3
	}
	comes(t, d, n, [32]uint32{4: 7}, want)
	needs(t, d, n, 16)
}

// A part of a part, told by its own number ahead of those that have it and behind.
func TestPartsAtAllDistances(t *testing.T) {
	d := New()
	made(t)(d.Var(1))
	made(t)(d.Var(2))
	a, b := uint32(1), uint32(1)
	for n := 2; n < 300; n++ {
		made(t)(d.Op(api.Add, n-1, n-2))
		a, b = a+b, a
	}
	comes(t, d, 299, [32]uint32{1: 1, 2: 1}, a)
	comes(t, d, 298, [32]uint32{1: 1, 2: 1}, b)
	needs(t, d, 299, 6)
	needs(t, d, 1, 4)
}

func TestDeepTerms(t *testing.T) {
	const deep = 1 << 18
	for _, left := range []bool{true, false} {
		d := New()
		n := made(t)(d.Var(6))
		one := made(t)(d.Var(9))
		for range deep {
			if left {
				n = made(t)(d.Op(api.Sub, n, one))
			} else {
				n = made(t)(d.Op(api.Sub, one, n))
			}
		}
		want := uint32(11)
		if left {
			want -= 3 * deep
		}
		comes(t, d, n, [32]uint32{6: 11, 9: 3}, want)
		needs(t, d, n, 1<<6+1<<9)
	}
}

// What a small term comes to takes no longer for the many others that are there.
func TestSmallTermsAmongMany(t *testing.T) {
	d := New()
	x := made(t)(d.Var(3))
	for k := range uint32(1 << 18) {
		d.Const(k)
	}
	n := made(t)(d.Op(api.Add, x, d.Len()-1))
	for k := range uint32(1 << 16) {
		comes(t, d, n, [32]uint32{3: k}, 1<<18-1+k)
		needs(t, d, n, 8)
	}
}

func TestTellingChangesNothing(t *testing.T) {
	d, m := New(), &model{}
	d.Const(3)
	m.word(3)
	made(t)(d.Var(8))
	m.register(8)
	made(t)(d.Op(api.Srl, 1, 0))
	m.reckoning(api.Srl, 1, 0)
	for k := range uint32(5) {
		match(t, d, m, [32]uint32{8: 100 * k})
		if x, _ := d.Node(2); x.A == 1 {
			x.A, x.V = 77, 77
		}
	}
	told(t, d, d.Const(4), api.OK, 3, 4)
}

func TestCopyTellsTheSame(t *testing.T) {
	d, m := New(), &model{}
	x := [32]uint32{0: 1, 1: 6, 2: 7, 31: 8}
	step := func(v uint32, r, op, a, b int) {
		match(t, d.Copy(), m, x)
		d.Const(v)
		m.word(v)
		made(t)(d.Var(r))
		m.register(r)
		made(t)(d.Op(op, a, b))
		m.reckoning(op, a, b)
	}
	step(5, 1, api.Add, 0, 1)
	step(0, 2, api.Mul, 2, 4)
	step(5, 31, api.Sltu, 6, 6)
	step(9, 0, api.Rem, 7, 0)
	match(t, d.Copy(), m, x)
	match(t, d.Copy().Copy(), m, x)
	match(t, d, m, x)
}

func TestCopyGoesItsOwnWay(t *testing.T) {
	for _, copyFirst := range []bool{true, false} {
		for size := range 40 {
			d, m := New(), &model{}
			for k := range size {
				d.Const(uint32(k))
				m.word(uint32(k))
			}
			c, n := d.Copy(), m.copy()
			further := func(d *Dag, m *model, r int) {
				told(t, d, d.Const(500), api.OK, size, size+1)
				m.word(500)
				k, e := d.Var(r)
				told(t, d, k, e, size+1, size+2)
				m.register(r)
				k, e = d.Op(api.And, size+1, size)
				told(t, d, k, e, size+2, size+3)
				m.reckoning(api.And, size+1, size)
			}
			x := [32]uint32{3: 0xffff, 4: 0xff}
			if copyFirst {
				further(c, n, 3)
				match(t, d, m, x)
				further(d, m, 4)
			} else {
				further(d, m, 4)
				match(t, c, n, x)
				further(c, n, 3)
			}
			match(t, c, n, x)
			match(t, d, m, x)
		}
	}
}

func TestCopyOfNone(t *testing.T) {
	d := New()
	c := d.Copy()
	cc := c.Copy()
	told(t, c, c.Const(7), api.OK, 0, 1)
	told(t, c, c.Const(7), api.OK, 0, 1)
	match(t, d, &model{}, [32]uint32{})
	n, e := d.Var(7)
	told(t, d, n, e, 0, 1)
	n, e = d.Var(7)
	told(t, d, n, e, 0, 1)
	match(t, cc, &model{}, [32]uint32{})
	told(t, cc, cc.Const(8), api.OK, 0, 1)
	match(t, c, &model{l: []api.Term{{Kind: api.TermConst, V: 7}}}, [32]uint32{})
}

// What the one makes first, the other one makes as a term of its own, of the same number or another.
func TestCopiesHaveTheirOwnNumbers(t *testing.T) {
	d := New()
	d.Const(1)
	c := d.Copy()
	told(t, d, d.Const(2), api.OK, 1, 2)
	told(t, d, d.Const(3), api.OK, 2, 3)
	told(t, c, c.Const(3), api.OK, 1, 2)
	told(t, c, c.Const(2), api.OK, 2, 3)
	told(t, d, d.Const(1), api.OK, 0, 3)
	told(t, c, c.Const(1), api.OK, 0, 3)
	comes(t, d, 1, [32]uint32{}, 2)
	comes(t, c, 1, [32]uint32{}, 3)
}
