package term

import "whetstone/api"

// has tells whether there is a term of a number.
func (d *Dag) has(n int) bool { return n >= 0 && n < d.Len() }

// numbers are the terms' numbers. They are made at the first call, and by
// Copy, which brings its own.
func (d *Dag) numbers() map[api.Term]int {
	d.once.Do(func() { d.found = map[api.Term]int{} })
	return d.found
}

// number is a term's number; the term is made if it is not there yet.
func (d *Dag) number(t api.Term) int {
	if n, is := d.numbers()[t]; is {
		return n
	}
	n := int(d.count.Add(1)) - 1
	d.terms = append(d.terms, t)
	d.numbers()[t] = n
	return n
}

// fold reads a term as a word: a word's term and a register's by leaf, a
// reckoning by join of what its parts are read as. Each term is read once,
// since those that are shared would else be read as often as there are ways to
// them; and none that n does not have, since there may be far more of those. A
// list of what is to be read stands in for calls within calls, so that a term
// may be as deep as it likes.
func (d *Dag) fold(n int, leaf func(t api.Term) uint32, join func(op int, a, b uint32) uint32) uint32 {
	known := map[int]uint32{}
	todo := []int{n}
	for len(todo) > 0 {
		k := todo[len(todo)-1]
		t := d.terms[k]
		a, isA := known[t.A]
		b, isB := known[t.B]
		switch {
		case t.Kind != api.TermOp:
			known[k] = leaf(t)
		case isA && isB:
			known[k] = join(t.Op, a, b)
		default:
			todo = append(todo, t.A, t.B)
			continue
		}
		todo = todo[:len(todo)-1]
	}
	return known[n]
}
