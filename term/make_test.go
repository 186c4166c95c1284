package term

import (
	"math"
	"testing"

	"whetstone/api"
)

// told holds a call's number against the one that it must be, and how many terms there are then.
func told(t *testing.T, d *Dag, n int, e api.Errno, want, size int) {
	t.Helper()
	if n != want || e != api.OK || d.Len() != size {
		t.Fatalf("the number %d, %d, of %d terms; not %d of %d", n, e, d.Len(), want, size)
	}
}

// refused holds a call to an error, without a number, and how many terms there are then.
func refused(t *testing.T, d *Dag, n int, e, want api.Errno, size int) {
	t.Helper()
	if n != 0 || e != want || d.Len() != size {
		t.Fatalf("the number %d, error %d, of %d terms; not error %d, of %d", n, e, d.Len(), want, size)
	}
}

// made is a call's number, beside which no error may stand.
func made(t *testing.T) func(n int, e api.Errno) int {
	return func(n int, e api.Errno) int {
		t.Helper()
		if e != api.OK {
			t.Fatalf("error %d", e)
		}
		return n
	}
}

// P10.1

func TestExamples(t *testing.T) {
	d := New()
	told(t, d, d.Const(5), api.OK, 0, 1)
	n, e := d.Var(1)
	told(t, d, n, e, 1, 2)
	for range 2 {
		n, e = d.Op(api.Add, 1, 0)
		told(t, d, n, e, 2, 3)
	}
	if v, e := d.Eval(2, [32]uint32{1: 7}); v != 12 || e != api.OK {
		t.Errorf("%d, %d", v, e)
	}
}

func TestNumbersRise(t *testing.T) {
	d := New()
	for k, v := range edges() {
		told(t, d, d.Const(v), api.OK, k, k+1)
	}
	size := d.Len()
	for r := 31; r >= 1; r-- {
		n, e := d.Var(r)
		told(t, d, n, e, size, size+1)
		size++
	}
	for _, op := range reckonings() {
		n, e := d.Op(op, size-1, 3)
		told(t, d, n, e, size, size+1)
		size++
	}
}

func TestSameTermAgain(t *testing.T) {
	d := New()
	words := edges()
	again := func() {
		for _, v := range words {
			d.Const(v)
		}
		for r := range 32 {
			made(t)(d.Var(r))
		}
		for _, op := range reckonings() {
			made(t)(d.Op(op, 20, 1))
			made(t)(d.Op(op, 1, 20))
			made(t)(d.Op(op, 7, 7))
		}
	}
	again()
	size := d.Len()
	if size != len(words)+31+3*len(reckonings()) {
		t.Fatalf("%d terms", size)
	}
	again()
	for k, v := range words {
		told(t, d, d.Const(v), api.OK, k, size)
	}
	for r := 31; r >= 1; r-- {
		n, e := d.Var(r)
		told(t, d, n, e, len(words)+r-1, size)
	}
	for k, op := range reckonings() {
		n, e := d.Op(op, 7, 7)
		told(t, d, n, e, len(words)+31+3*k+2, size)
		n, e = d.Op(op, 1, 20)
		told(t, d, n, e, len(words)+31+3*k+1, size)
	}
}

func TestRegisterNoughtIsTheWordNought(t *testing.T) {
	d := New()
	n, e := d.Var(0)
	told(t, d, n, e, 0, 1)
	told(t, d, d.Const(0), api.OK, 0, 1)
	if x, e := d.Node(0); x != (api.Term{Kind: api.TermConst}) || e != api.OK {
		t.Errorf("%v, %d", x, e)
	}
	d = New()
	d.Const(9)
	told(t, d, d.Const(0), api.OK, 1, 2)
	n, e = d.Var(0)
	told(t, d, n, e, 1, 2)
}

func TestOneOtherPartIsAnotherTerm(t *testing.T) {
	d := New()
	calls := []func() (int, api.Errno){
		func() (int, api.Errno) { return d.Const(1), api.OK },
		func() (int, api.Errno) { return d.Var(1) },
		func() (int, api.Errno) { return d.Const(2), api.OK },
		func() (int, api.Errno) { return d.Var(2) },
		func() (int, api.Errno) { return d.Const(1 << 31), api.OK },
		func() (int, api.Errno) { return d.Const(1<<31 + 1), api.OK },
		func() (int, api.Errno) { return d.Const(api.Add), api.OK },
		func() (int, api.Errno) { return d.Var(api.Add) },
		func() (int, api.Errno) { return d.Op(api.Add, 0, 0) },
		func() (int, api.Errno) { return d.Op(api.Add, 0, 1) },
		func() (int, api.Errno) { return d.Op(api.Add, 1, 0) },
		func() (int, api.Errno) { return d.Op(api.Add, 1, 1) },
		func() (int, api.Errno) { return d.Op(api.Sub, 0, 0) },
		func() (int, api.Errno) { return d.Op(api.Mul, 0, 1) },
		func() (int, api.Errno) { return d.Op(api.And, 0, 1) },
		func() (int, api.Errno) { return d.Op(api.Add, 2, 1) },
		func() (int, api.Errno) { return d.Op(api.Add, 1, 2) },
		func() (int, api.Errno) { return d.Op(api.Add, 8, 8) },
		func() (int, api.Errno) { return d.Op(api.Add, 8, 9) },
		func() (int, api.Errno) { return d.Op(api.Add, 9, 8) },
	}
	for k, call := range calls {
		n, e := call()
		told(t, d, n, e, k, k+1)
	}
	for k, call := range calls {
		n, e := call()
		told(t, d, n, e, k, len(calls))
	}
}

// A reckoning of words is one, too; nor is one made for another that comes to the same.
func TestNothingIsReckonedAhead(t *testing.T) {
	d := New()
	d.Const(2)
	d.Const(3)
	d.Const(5)
	n, e := d.Op(api.Add, 0, 1)
	told(t, d, n, e, 3, 4)
	n, e = d.Op(api.Add, 1, 0)
	told(t, d, n, e, 4, 5)
	n, e = d.Op(api.Sub, 0, 0)
	told(t, d, n, e, 5, 6)
	told(t, d, d.Const(0), api.OK, 6, 7)
}

func TestVarAtItsEdges(t *testing.T) {
	odd := []int{
		math.MinInt, math.MinInt + 1, -1 << 32, 1 - 1<<32, -1 << 31, -256, -33, -32, -31, -2, -1,
		32, 33, 63, 64, 65, 256, 257, 1 << 16, 1<<31 - 1, 1 << 31, 1 << 32, 1<<32 + 1, 1<<32 + 31, math.MaxInt - 30, math.MaxInt,
	}
	d := New()
	for _, r := range odd {
		n, e := d.Var(r)
		refused(t, d, n, e, api.ErrArg, 0)
	}
	d.Const(77)
	for k, r := range []int{1, 30, 31, 0} {
		n, e := d.Var(r)
		told(t, d, n, e, k+1, k+2)
	}
	for _, r := range odd {
		n, e := d.Var(r)
		refused(t, d, n, e, api.ErrArg, 5)
	}
}

func TestOpOfEachKind(t *testing.T) {
	d := New()
	d.Const(1)
	d.Const(2)
	kinds := 0
	for op := -300; op < api.Ops+300; op++ {
		n, e := d.Op(op, 0, 1)
		if !isReckoning(op) {
			refused(t, d, n, e, api.ErrArg, 2+kinds)
			continue
		}
		told(t, d, n, e, 2+kinds, 3+kinds)
		kinds++
	}
	if kinds != 18 {
		t.Errorf("%d kinds", kinds)
	}
	size := d.Len()
	odd := []int{math.MinInt, math.MinInt32, math.MaxInt32, math.MaxInt}
	for _, op := range reckonings() {
		odd = append(odd, op+1<<8, op+1<<16, op+1<<32, op-1<<32, -op)
	}
	for _, op := range odd {
		n, e := d.Op(op, 0, 1)
		refused(t, d, n, e, api.ErrArg, size)
	}
}

func TestOpOfNoTerms(t *testing.T) {
	for size := range 4 {
		d := New()
		for k := range size {
			d.Const(uint32(k) + 10)
		}
		for _, op := range []int{api.Add, api.Mul, api.Remu, api.Addi, api.Lui, api.Ecall, api.Ops, -1, math.MaxInt, math.MinInt} {
			for _, no := range noTerms(size) {
				for n := range size {
					r, e := d.Op(op, n, no)
					refused(t, d, r, e, api.ErrTermNode, size)
					r, e = d.Op(op, no, n)
					refused(t, d, r, e, api.ErrTermNode, size)
				}
				for _, other := range noTerms(size) {
					r, e := d.Op(op, no, other)
					refused(t, d, r, e, api.ErrTermNode, size)
				}
			}
		}
	}
}

// A reckoning may have the last term, but not itself.
func TestOpAtLen(t *testing.T) {
	d := New()
	d.Const(3)
	for size := 1; size < 50; size++ {
		n, e := d.Op(api.Xor, size, size-1)
		refused(t, d, n, e, api.ErrTermNode, size)
		n, e = d.Op(api.Xor, size-1, size)
		refused(t, d, n, e, api.ErrTermNode, size)
		n, e = d.Op(api.Xor, size-1, size-1)
		told(t, d, n, e, size, size+1)
	}
}

func TestWhatIsRefusedMakesNone(t *testing.T) {
	d, m := New(), &model{}
	odd := func() {
		for _, n := range noTerms(d.Len()) {
			d.Op(api.Add, n, 0)
			d.Op(api.Add, 0, n)
			d.Op(api.Slli, 0, n)
			none(t, d, n)
		}
		d.Var(-1)
		d.Var(32)
		d.Op(api.Addi, 0, 0)
		d.Op(api.Ops, 0, 0)
		match(t, d, m, [32]uint32{1: 4, 2: 5})
	}
	odd()
	d.Const(8)
	m.word(8)
	odd()
	made(t)(d.Var(2))
	m.register(2)
	odd()
	made(t)(d.Op(api.Sltu, 1, 0))
	m.reckoning(api.Sltu, 1, 0)
	odd()
}

func TestEachNewOneIsItsOwn(t *testing.T) {
	a, b := New(), New()
	a.Const(1)
	a.Const(2)
	told(t, b, b.Const(2), api.OK, 0, 1)
	told(t, a, a.Const(3), api.OK, 2, 3)
	told(t, New(), New().Const(9), api.OK, 0, 0)
	none(t, b, 1)
}
