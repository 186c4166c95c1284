package simp

import (
	"math/bits"
	"slices"

	"whetstone/api"
	"whetstone/term"
	"whetstone/word"
)

// reckoning is what is to be made simple: its kind, its terms' numbers, and
// the terms.
type reckoning struct {
	d           *term.Dag
	op, a, b    int
	left, right api.Term
}

func read(d *term.Dag, op, a, b int) reckoning {
	left, _ := d.Node(a) // Nobody reads ahead of having asked whether they are there.
	right, _ := d.Node(b)
	return reckoning{d: d, op: op, a: a, b: b, left: left, right: right}
}

func isWord(t api.Term) bool { return t.Kind == api.TermConst }

// among tells whether the kind is one of some.
func (r reckoning) among(ops ...int) bool { return slices.Contains(ops, r.op) }

// outcome is what a rule says that a reckoning becomes: the term n, if there is
// no closure; else whatever the reckoning that the closure tells becomes. The
// closure makes the words of that one: nothing is made ahead of a rule's turn.
type outcome struct {
	n    int
	goOn func() (op, a, b int)
}

// A rule tells false of what it does not apply to.
type rule func(r reckoning) (outcome, bool)

func ends(n int) (outcome, bool) { return outcome{n: n}, true }

func (r reckoning) endsAsWord(v uint32) (outcome, bool) { return ends(r.d.Const(v)) }

func (r reckoning) goesOn(op, a int, v uint32) (outcome, bool) {
	return outcome{goOn: func() (int, int, int) { return op, a, r.d.Const(v) }}, true
}

func passes() (outcome, bool) { return outcome{}, false }

// becomes is what the first rule that applies says.
func becomes(r reckoning) outcome {
	if o, is := first(r, words, turned, lessWord, withWord, twins); is {
		return o
	}
	n, _ := r.d.Op(r.op, r.a, r.b)
	return outcome{n: n}
}

func first(r reckoning, rules ...rule) (outcome, bool) {
	for _, is := range rules {
		if o, applies := is(r); applies {
			return o, true
		}
	}
	return passes()
}

// words: what can be reckoned at once.
func words(r reckoning) (outcome, bool) {
	if !isWord(r.left) || !isWord(r.right) {
		return passes()
	}
	v, _ := word.Do(r.op, r.left.V, r.right.V)
	return r.endsAsWord(v)
}

// turned: where the order makes no difference, a word stands behind, and else
// the term that was made first stands in front.
func turned(r reckoning) (outcome, bool) {
	if !r.among(api.Add, api.And, api.Or, api.Xor, api.Mul, api.Mulh, api.Mulhu) {
		return passes()
	}
	wordAhead := isWord(r.left) && !isWord(r.right)
	laterAhead := !isWord(r.left) && !isWord(r.right) && r.a > r.b
	if !wordAhead && !laterAhead {
		return passes()
	}
	return outcome{goOn: func() (int, int, int) { return r.op, r.b, r.a }}, true
}

// lessWord: less a word is more by what is below 0 by as much.
func lessWord(r reckoning) (outcome, bool) {
	if r.op != api.Sub || !isWord(r.right) {
		return passes()
	}
	return r.goesOn(api.Add, r.a, -r.right.V)
}

// withWord: the rows of what has a word behind.
func withWord(r reckoning) (outcome, bool) {
	if !isWord(r.right) {
		return passes()
	}
	return first(r, kept, nought, ones, farShift, power, joined, shiftedAgain)
}

// kept: a word that makes no difference.
func kept(r reckoning) (outcome, bool) {
	v := r.right.V
	if v == 0 && r.among(api.Add, api.Or, api.Xor) ||
		v == 1 && r.among(api.Mul, api.Div, api.Divu) ||
		v == 1<<32-1 && r.op == api.And {
		return ends(r.a)
	}
	return passes()
}

// nought: a word that leaves nothing of the other one.
func nought(r reckoning) (outcome, bool) {
	v := r.right.V
	if v == 0 && r.among(api.And, api.Mul, api.Sltu) || v == 1 && r.among(api.Rem, api.Remu) {
		return r.endsAsWord(0)
	}
	return passes()
}

func ones(r reckoning) (outcome, bool) {
	if r.op == api.Or && r.right.V == 1<<32-1 {
		return ends(r.b)
	}
	return passes()
}

func isShift(op int) bool { return op == api.Sll || op == api.Srl || op == api.Sra }

// farShift: what a shift looks at are the lowest five bits.
func farShift(r reckoning) (outcome, bool) {
	v := r.right.V
	switch {
	case !isShift(r.op):
		return passes()
	case v%32 == 0:
		return ends(r.a)
	case v > 31:
		return r.goesOn(r.op, r.a, v%32)
	}
	return passes()
}

// power: 2^k, k from 1 on.
func power(r reckoning) (outcome, bool) {
	v := r.right.V
	if v < 2 || bits.OnesCount32(v) != 1 {
		return passes()
	}
	k := uint32(bits.TrailingZeros32(v))
	switch r.op {
	case api.Mul:
		return r.goesOn(api.Sll, r.a, k)
	case api.Divu:
		return r.goesOn(api.Srl, r.a, k)
	case api.Remu:
		return r.goesOn(api.And, r.a, v-1)
	}
	return passes()
}

// again tells whether the left term is of the same kind, with a word behind,
// and which.
func (r reckoning) again() (w uint32, is bool) {
	if r.left.Kind != api.TermOp || r.left.Op != r.op {
		return 0, false
	}
	t, _ := r.d.Node(r.left.B)
	if !isWord(t) {
		return 0, false
	}
	return t.V, true
}

// joined: two words behind one term come to one.
func joined(r reckoning) (outcome, bool) {
	w, is := r.again()
	if !is || !r.among(api.Add, api.And, api.Or, api.Xor) {
		return passes()
	}
	v, _ := word.Do(r.op, w, r.right.V)
	return r.goesOn(r.op, r.left.A, v)
}

// shiftedAgain: two shifts are one by both, or leave nothing but the sign.
// What comes here is shifted by 1 to 31; what was shifted ahead may be a term
// that nobody made simple.
func shiftedAgain(r reckoning) (outcome, bool) {
	w, is := r.again()
	if !is || !isShift(r.op) || w < 1 || w > 31 {
		return passes()
	}
	far := w + r.right.V
	switch {
	case far < 32:
		return r.goesOn(r.op, r.left.A, far)
	case r.op == api.Sra:
		return r.goesOn(api.Sra, r.left.A, 31)
	}
	return r.endsAsWord(0)
}

// twins: a term and itself.
func twins(r reckoning) (outcome, bool) {
	if r.a != r.b {
		return passes()
	}
	switch r.op {
	case api.Sub, api.Xor, api.Slt, api.Sltu:
		return r.endsAsWord(0)
	case api.And, api.Or:
		return ends(r.a)
	case api.Add:
		return r.goesOn(api.Sll, r.a, 1)
	}
	return passes()
}
