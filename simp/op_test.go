package simp

import (
	"math"
	"testing"

	"whetstone/api"
	"whetstone/term"
)

// P11.1

func TestExamples(t *testing.T) {
	become(t, with(t, "x1"), "add(add(x1 3) 4)", "add(x1 7)", "7", "add(x1 7)")
	become(t, with(t, "x1"), "mul(x1 8)", "sll(x1 3)", "3", "sll(x1 3)")
	become(t, with(t, "x1"), "sub(x1 x1)", "0", "0")
}

// each holds all kinds with the same terms: some become what is told, all others stay.
func each(t *testing.T, terms string, some map[string]string) {
	t.Helper()
	seen := 0
	for op := range names() {
		s := op + "(" + terms + ")"
		want, is := some[op]
		if is {
			seen++
		} else {
			want = s
		}
		d := term.New()
		if n := ask(t, d, s); text(d, n) != want {
			t.Errorf("%s: %s, not %s", s, text(d, n), want)
		}
	}
	if seen != len(some) {
		t.Errorf("of %d kinds", seen)
	}
}

func TestWithNought(t *testing.T) {
	each(t, "x1 0", map[string]string{
		"add": "x1", "sub": "x1", "or": "x1", "xor": "x1", "sll": "x1", "srl": "x1", "sra": "x1",
		"and": "0", "mul": "0", "sltu": "0",
	})
	each(t, "0 x1", map[string]string{
		"add": "x1", "or": "x1", "xor": "x1", "and": "0", "mul": "0", "mulh": "mulh(x1 0)", "mulhu": "mulhu(x1 0)",
	})
}

func TestWithOne(t *testing.T) {
	each(t, "x1 1", map[string]string{
		"sub": "add(x1 0xffffffff)", "mul": "x1", "div": "x1", "divu": "x1", "rem": "0", "remu": "0",
	})
	each(t, "1 x1", map[string]string{
		"add": "add(x1 1)", "and": "and(x1 1)", "or": "or(x1 1)", "xor": "xor(x1 1)", "mul": "x1",
		"mulh": "mulh(x1 1)", "mulhu": "mulhu(x1 1)",
	})
}

func TestWithAllOnes(t *testing.T) {
	each(t, "x1 0xffffffff", map[string]string{
		"sub": "add(x1 1)", "and": "x1", "or": "0xffffffff",
		"sll": "sll(x1 31)", "srl": "srl(x1 31)", "sra": "sra(x1 31)",
	})
	each(t, "0xffffffff x1", map[string]string{
		"add": "add(x1 0xffffffff)", "and": "x1", "or": "0xffffffff", "xor": "xor(x1 0xffffffff)",
		"mul": "mul(x1 0xffffffff)", "mulh": "mulh(x1 0xffffffff)", "mulhu": "mulhu(x1 0xffffffff)",
	})
}

func TestWithWordsOfNoRule(t *testing.T) {
	each(t, "x1 3", map[string]string{"sub": "add(x1 0xfffffffd)"})
	each(t, "x1 7", map[string]string{"sub": "add(x1 0xfffffff9)"})
	each(t, "x1 0xfffffffe", map[string]string{
		"sub": "add(x1 2)", "sll": "sll(x1 30)", "srl": "srl(x1 30)", "sra": "sra(x1 30)",
	})
	each(t, "x1 0x7fffffff", map[string]string{
		"sub": "add(x1 0x80000001)", "sll": "sll(x1 31)", "srl": "srl(x1 31)", "sra": "sra(x1 31)",
	})
}

func TestWithTheGreatestPower(t *testing.T) {
	each(t, "x1 0x80000000", map[string]string{
		"sub": "add(x1 0x80000000)", "mul": "sll(x1 31)", "divu": "srl(x1 31)", "remu": "and(x1 0x7fffffff)",
		"sll": "x1", "srl": "x1", "sra": "x1",
	})
}

func TestTermAndItself(t *testing.T) {
	each(t, "x1 x1", map[string]string{
		"add": "sll(x1 1)", "sub": "0", "xor": "0", "slt": "0", "sltu": "0", "and": "x1", "or": "x1",
	})
	const s = "mulhu(x1 x2)"
	each(t, s+" "+s, map[string]string{
		"add": "sll(" + s + " 1)", "sub": "0", "xor": "0", "slt": "0", "sltu": "0", "and": s, "or": s,
	})
}

func TestTwoRegisters(t *testing.T) {
	each(t, "x1 x2", nil)
	turned := map[string]string{}
	for _, op := range []string{"add", "and", "or", "xor", "mul", "mulh", "mulhu"} {
		turned[op] = op + "(x1 x2)"
	}
	for op := range names() {
		s := op + "(x2 x1)"
		want, is := turned[op]
		if !is {
			want = s
		}
		become(t, with(t, "x1", "x2"), s, want, want)
		become(t, with(t, "x2", "x1"), s, s, s)
	}
}

// The word stands behind, whichever number is greater.
func TestWordAhead(t *testing.T) {
	for _, op := range []string{"add", "and", "or", "xor", "mul", "mulh", "mulhu"} {
		want := op + "(x1 77)"
		for _, s := range []string{op + "(77 x1)", op + "(x1 77)"} {
			become(t, with(t, "x1", "77"), s, want, want)
			become(t, with(t, "77", "x1"), s, want, want)
		}
	}
	for _, op := range []string{"sub", "sll", "srl", "sra", "slt", "sltu", "mulhsu", "div", "divu", "rem", "remu"} {
		s := op + "(77 x1)"
		become(t, with(t, "x1", "77"), s, s, s)
		become(t, with(t, "77", "x1"), s, s, s)
	}
}

func TestWordsAreReckoned(t *testing.T) {
	for s, want := range map[string]string{
		"add(5 3)": "8", "sub(5 3)": "2", "sub(3 5)": "0xfffffffe", "mul(5 3)": "15", "and(5 3)": "1", "or(5 3)": "7",
		"xor(5 3)": "6", "sll(5 3)": "40", "srl(5 1)": "2", "sra(0xfffffff8 1)": "0xfffffffc", "slt(0xffffffff 3)": "1",
		"sltu(0xffffffff 3)": "0", "mulh(0xffffffff 3)": "0xffffffff", "mulhu(0xffffffff 3)": "2",
		"mulhsu(0xffffffff 0xffffffff)": "0xffffffff", "div(7 0)": "0xffffffff", "rem(7 0)": "7", "divu(9 4)": "2",
		"remu(9 4)": "1", "add(0 9)": "9", "sub(9 9)": "0", "sll(9 33)": "18", "rem(0x80000000 0xffffffff)": "0",
		"and(9 9)": "9",
	} {
		d := term.New()
		if n := ask(t, d, s); text(d, n) != want {
			t.Errorf("%s: %s, not %s", s, text(d, n), want)
		}
	}
	become(t, with(t), "add(5 3)", "8", "8")
	become(t, with(t, "8"), "add(5 3)", "8")
	become(t, with(t), "sub(5 0)", "5")
	become(t, with(t), "mul(3 8)", "24", "24")
}

func TestLessAWord(t *testing.T) {
	become(t, with(t, "x1"), "sub(x1 5)", "add(x1 0xfffffffb)", "0xfffffffb", "add(x1 0xfffffffb)")
	become(t, with(t, "x1"), "sub(x1 0x80000000)", "add(x1 0x80000000)", "add(x1 0x80000000)")
	become(t, with(t, "x1"), "sub(x1 0)", "x1")
	become(t, with(t, "x1"), "sub(add(x1 5) 5)", "x1", "0xfffffffb", "0")
	become(t, with(t, "x1"), "sub(sub(x1 3) 4)", "add(sub(x1 3) 0xfffffffc)", "0xfffffffc", "add(sub(x1 3) 0xfffffffc)")
	become(t, with(t, "x1"), "sub(5 x1)", "sub(5 x1)", "sub(5 x1)")
}

func TestPowersOfTwo(t *testing.T) {
	for k := uint32(1); k < 32; k++ {
		v, sll, srl, and := num(1<<k), "sll(x1 "+num(k)+")", "srl(x1 "+num(k)+")", "and(x1 "+num(1<<k-1)+")"
		l := []string{"mul(x1 " + v + ")", "divu(x1 " + v + ")", "remu(x1 " + v + ")"}
		become(t, with(t, "x1", num(k)), l[0], sll, sll)
		become(t, with(t, "x1", num(k)), l[1], srl, srl)
		become(t, with(t, "x1", num(1<<k-1)), l[2], and, and)
		for _, op := range []string{"div", "rem", "mulh", "mulhu", "mulhsu", "add", "and", "or", "xor", "slt", "sltu"} {
			s := op + "(x1 " + v + ")"
			become(t, with(t, "x1"), s, s, s)
		}
		for _, near := range []uint32{1<<k - 1, 1<<k + 1, 3 << (k - 1)} {
			if near == 1 || near == 2 {
				continue // One is a row of its own; beside 2^1 there is none but 3.
			}
			for _, op := range []string{"mul", "divu", "remu"} {
				s := op + "(x1 " + num(near) + ")"
				become(t, with(t, "x1"), s, s, s)
			}
		}
	}
	become(t, with(t, "x1"), "mul(8 x1)", "sll(x1 3)", "3", "sll(x1 3)")
	become(t, with(t, "x1"), "divu(8 x1)", "divu(8 x1)", "divu(8 x1)")
	become(t, with(t, "x1"), "mul(x1 0)", "0")
	become(t, with(t, "x1"), "divu(x1 0)", "divu(x1 0)", "divu(x1 0)")
	become(t, with(t, "x1"), "remu(x1 0)", "remu(x1 0)", "remu(x1 0)")
}

func TestShiftsByWords(t *testing.T) {
	for _, op := range []string{"sll", "srl", "sra"} {
		for v := range uint32(32) {
			s, by := op+"(x1 "+num(v)+")", num(v)
			if v == 0 {
				s = "x1"
			}
			for _, more := range []uint32{0, 32, 64, 96, 1 << 10, 1 << 31, 0xffffffe0} {
				d := with(t, "x1", by)
				raw(t, d, num(v+more))
				if v == 0 {
					become(t, d, op+"(x1 "+num(v+more)+")", "x1")
				} else {
					become(t, d, op+"(x1 "+num(v+more)+")", s, s)
				}
			}
		}
		become(t, with(t, "x1"), op+"(x1 33)", op+"(x1 1)", "1", op+"(x1 1)")
		become(t, with(t, "x1"), op+"(5 x1)", op+"(5 x1)", op+"(5 x1)")
	}
}

func TestShiftedTwice(t *testing.T) {
	for _, op := range []string{"sll", "srl", "sra"} {
		for w := uint32(1); w < 32; w++ {
			for v := uint32(1); v < 32; v++ {
				want := op + "(x1 " + num(w+v) + ")"
				if w+v >= 32 {
					want = "0"
					if op == "sra" {
						want = "sra(x1 31)"
					}
				}
				d := with(t, "x1")
				if n := ask(t, d, op+"("+op+"(x1 "+num(w)+") "+num(v)+")"); text(d, n) != want {
					t.Errorf("%s by %d, by %d: %s", op, w, v, text(d, n))
				}
			}
		}
		stays := op + "(x1 5)"
		for _, w := range []string{"0", "32", "33", "64", "0xffffffff", "0x80000001", "x2"} {
			s := op + "(" + op + "(x1 " + w + ") 5)"
			become(t, with(t, "x1"), s, s, s)
		}
		become(t, with(t, "x1"), op+"("+stays+" 32)", stays)
		become(t, with(t, "x1"), op+"("+stays+" 34)", op+"(x1 7)", "2", "7", op+"(x1 7)")
		become(t, with(t, "x1"), op+"("+stays+" x2)", op+"("+stays+" x2)", op+"("+stays+" x2)")
		become(t, with(t, "x1"), op+"("+op+"(5 x1) 3)", op+"("+op+"(5 x1) 3)", op+"("+op+"(5 x1) 3)")
	}
	become(t, with(t, "x1"), "sll(sll(x1 20) 12)", "0", "0")
	become(t, with(t, "x1"), "srl(srl(x1 31) 31)", "0", "0")
	become(t, with(t, "x1"), "sra(sra(x1 20) 20)", "sra(x1 31)", "31", "sra(x1 31)")
	become(t, with(t, "x1"), "sra(sra(sra(x1 31) 31) 31)", "sra(x1 31)")
	become(t, with(t, "x1"), "sll(sll(sll(x1 1) 2) 3)", "sll(x1 6)", "5", "6", "sll(x1 6)")
	become(t, with(t, "x1"), "sll(sll(3 1) 2)", "24", "24")
}

func TestOtherShiftsDoNotJoin(t *testing.T) {
	for _, op := range []string{"sll", "srl", "sra"} {
		for _, other := range []string{"sll", "srl", "sra", "add", "and"} {
			if s := op + "(" + other + "(x1 3) 3)"; op != other {
				become(t, with(t, "x1"), s, s, s)
			}
		}
	}
}

func TestJoinedWords(t *testing.T) {
	for s, want := range map[string]string{
		"add(add(x1 3) 0xfffffffd)": "x1", "add(add(x1 1) 1)": "add(x1 2)", "add(add(x1 0x80000000) 0x80000000)": "x1",
		"add(add(x1 3) 0xfffffffe)": "add(x1 1)", "add(3 add(x1 4))": "add(x1 7)",
		"and(and(x1 12) 10)": "and(x1 8)", "and(and(x1 12) 3)": "0", "and(and(x1 12) 0xfffffff4)": "and(x1 4)",
		"and(10 and(x1 12))": "and(x1 8)", "or(or(x1 12) 3)": "or(x1 15)", "or(or(x1 0xffff0000) 0xffff)": "0xffffffff",
		"or(3 or(x1 12))": "or(x1 15)", "xor(xor(x1 5) 5)": "x1", "xor(xor(x1 5) 6)": "xor(x1 3)",
		"xor(6 xor(x1 5))": "xor(x1 3)", "xor(xor(x1 0xfffffffa) 5)": "xor(x1 0xffffffff)",
	} {
		d := term.New()
		if n := ask(t, d, s); text(d, n) != want {
			t.Errorf("%s: %s, not %s", s, text(d, n), want)
		}
	}
}

func TestWhatDoesNotJoin(t *testing.T) {
	l := []string{"add", "and", "or", "xor", "mul", "slt", "divu", "mulhu"}
	for _, op := range l {
		for _, other := range l {
			s := op + "(" + other + "(x1 9) 5)"
			if joins := op == other && (op == "add" || op == "and" || op == "or" || op == "xor"); !joins {
				become(t, with(t, "x1"), s, s, s)
			}
		}
		for _, s := range []string{op + "(" + op + "(9 x1) 5)", op + "(" + op + "(x1 x2) 5)", op + "(x1 5)"} {
			become(t, with(t, "x1"), s, s, s)
		}
	}
	become(t, with(t, "x1"), "add(add(x1 9) x2)", "add(add(x1 9) x2)", "add(add(x1 9) x2)")
	become(t, with(t, "x1"), "slt(add(x1 9) 5)", "slt(add(x1 9) 5)", "slt(add(x1 9) 5)")
}

// What is joined may be a word by itself: then it is reckoned.
func TestJoinedUponAWord(t *testing.T) {
	become(t, with(t), "add(add(2 3) 4)", "9", "7", "9")
	become(t, with(t), "and(and(12 10) 6)", "0", "2", "0")
	become(t, with(t), "xor(xor(12 10) 10)", "12", "0")
	become(t, with(t), "or(or(1 2) 4)", "7", "6", "7")
	become(t, with(t, "x1"), "add(4 add(2 3))", "9", "7", "9")
}

// A rule that goes on begins with the first one; what was made for it stays.
func TestGoingOn(t *testing.T) {
	for _, x := range []struct {
		s, want string
		news    []string
	}{
		{"mul(sll(x1 30) 8)", "0", []string{"3", "0"}},
		{"mul(sll(x1 2) 8)", "sll(x1 5)", []string{"3", "5", "sll(x1 5)"}},
		{"mul(8 sll(x1 2))", "sll(x1 5)", []string{"3", "5", "sll(x1 5)"}},
		{"divu(srl(x1 2) 8)", "srl(x1 5)", []string{"3", "5", "srl(x1 5)"}},
		{"divu(srl(x1 30) 4)", "0", []string{"2", "0"}},
		{"remu(and(x1 12) 8)", "and(x1 4)", []string{"7", "4", "and(x1 4)"}},
		{"remu(and(x1 24) 8)", "0", []string{"7", "0"}},
		{"add(sll(x1 3) sll(x1 3))", "sll(x1 4)", []string{"1", "4", "sll(x1 4)"}},
		{"add(sll(x1 31) sll(x1 31))", "0", []string{"1", "0"}},
		{"add(x1 x1)", "sll(x1 1)", []string{"1", "sll(x1 1)"}},
		{"add(add(add(x1 1) 2) 3)", "add(x1 6)", []string{"5", "6", "add(x1 6)"}},
		{"sub(add(add(x1 1) 2) 3)", "x1", []string{"0xfffffffd", "0xffffffff", "0"}},
		{"srl(srl(x1 30) 66)", "0", []string{"2", "0"}},
		{"sra(sra(x1 30) 66)", "sra(x1 31)", []string{"2", "31", "sra(x1 31)"}},
		{"or(0xffff or(x1 0xffff0000))", "0xffffffff", []string{"0xffffffff"}},
		{"add(5 add(x1 3))", "add(x1 8)", []string{"8", "add(x1 8)"}},
		{"rem(x1 1)", "0", []string{"0"}},
		{"remu(x1 1)", "0", []string{"0"}},
		{"remu(x1 2)", "and(x1 1)", []string{"1", "and(x1 1)"}},
		{"mul(x1 2)", "sll(x1 1)", []string{"1", "sll(x1 1)"}},
	} {
		become(t, with(t, "x1"), x.s, x.want, x.news...)
	}
}

// What another rule would have made for it is not there.
func TestTheFirstRuleIsTaken(t *testing.T) {
	become(t, with(t, "x1"), "sub(7 3)", "4", "4")
	become(t, with(t, "x1"), "add(x1 0)", "x1")
	become(t, with(t, "x1"), "add(add(x1 3) 0)", "add(x1 3)")
	become(t, with(t, "x1"), "and(and(x1 3) 0xffffffff)", "and(x1 3)")
	become(t, with(t, "x1"), "and(and(x1 3) 0)", "0")
	become(t, with(t, "x1"), "or(or(x1 3) 0)", "or(x1 3)")
	become(t, with(t, "x1"), "or(or(x1 3) 0xffffffff)", "0xffffffff")
	become(t, with(t, "x1"), "xor(xor(x1 3) 0)", "xor(x1 3)")
	become(t, with(t, "x1"), "sll(sll(x1 3) 64)", "sll(x1 3)")
	become(t, with(t, "x1"), "add(add(add(x1 5) 3) 0)", "add(add(x1 5) 3)")
	become(t, with(t, "x1"), "xor(xor(5 3) 0)", "xor(5 3)")
	become(t, with(t, "x1"), "or(or(5 3) 0)", "or(5 3)")
	become(t, with(t, "x1"), "and(and(5 3) 0xffffffff)", "and(5 3)")
	become(t, with(t, "x1"), "sra(sra(sra(x1 3) 4) 32)", "sra(sra(x1 3) 4)")
	become(t, with(t, "x1"), "mul(x1 1)", "x1")
	become(t, with(t, "x1"), "divu(x1 1)", "x1")
	become(t, with(t), "add(9 9)", "18", "18")
	become(t, with(t), "sub(9 9)", "0", "0")
	become(t, with(t), "xor(9 9)", "0", "0")
	become(t, with(t), "sll(9 64)", "9")
}

// The words of chains as they stand are joined one by one, from behind.
func TestLongChains(t *testing.T) {
	const deep = 1 << 16
	for _, op := range []int{api.Add, api.Sra} {
		d := term.New()
		n := made(t)(d.Var(1))
		one := d.Const(1)
		for range deep {
			n = made(t)(d.Op(op, n, one))
		}
		n = made(t)(Op(d, op, n, one))
		want := "add(x1 0x10001)"
		if op == api.Sra {
			want = "sra(x1 31)"
		}
		if text(d, n) != want {
			t.Errorf("%s, not %s", text(d, n), want)
		}
	}
}

// Errors: those of term.Op, and nothing is made.

func TestOpOfNoTerms(t *testing.T) {
	for size := range 4 {
		d := term.New()
		for k := range size {
			d.Const(uint32(k) + 10)
		}
		for _, op := range []int{api.Add, api.Sub, api.Remu, api.Addi, api.Lui, api.Ecall, api.Ops, -1, math.MaxInt, math.MinInt} {
			for _, no := range noTerms(size) {
				for n := range size {
					refused(t, d, op, n, no, api.ErrTermNode)
					refused(t, d, op, no, n, api.ErrTermNode)
				}
				for _, other := range noTerms(size) {
					refused(t, d, op, no, other, api.ErrTermNode)
				}
			}
		}
	}
}

func TestOpOfOtherKinds(t *testing.T) {
	known := map[int]int{}
	for _, op := range names() {
		known[op] = 1
	}
	d := with(t, "x1", "x2", "0", "1", "8", "add(x1 1)")
	for op := -300; op < api.Ops+300; op++ {
		for a := range 6 {
			for b := range 6 {
				if known[op] == 0 {
					refused(t, d, op, a, b, api.ErrArg)
				}
			}
		}
	}
	for op := range known {
		for _, odd := range []int{op + 1<<8, op + 1<<16, op + 1<<32, op - 1<<32, -op} {
			refused(t, d, odd, 0, 3, api.ErrArg)
		}
	}
}

func TestOpAtLen(t *testing.T) {
	d := with(t, "x1")
	for size := 1; size < 20; size++ {
		refused(t, d, api.Sub, size, size-1, api.ErrTermNode)
		refused(t, d, api.Sub, size-1, size, api.ErrTermNode)
		refused(t, d, api.Addi, size-1, size-1, api.ErrArg)
		made(t)(d.Op(api.Sub, size-1, size-1))
	}
}

// Two of them share nothing.
func TestEachHasItsOwn(t *testing.T) {
	d := with(t, "x1", "8")
	c := d.Copy()
	become(t, d, "mul(x1 8)", "sll(x1 3)", "3", "sll(x1 3)")
	if c.Len() != 2 {
		t.Errorf("%d terms", c.Len())
	}
	become(t, c, "remu(x1 8)", "and(x1 7)", "7", "and(x1 7)")
	if d.Len() != 4 {
		t.Errorf("%d terms", d.Len())
	}
}
