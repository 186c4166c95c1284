package simp

import (
	"testing"

	"whetstone/api"
	"whetstone/term"
)

// comesTo holds All of a text's term, as it stands, against the text that it
// must tell, and what it must make for it, in its order.
func comesTo(t *testing.T, s, want string, news ...string) {
	t.Helper()
	d := term.New()
	k := raw(t, d, s)
	size := d.Len()
	for range 2 {
		n, e := All(d, k)
		if text(d, n) != want || e != api.OK || d.Len() != size+len(news) {
			t.Fatalf("%s: %s, %d, of %d new terms; not %s, of %d", s, text(d, n), e, d.Len()-size, want, len(news))
		}
		for i, x := range news {
			if text(d, size+i) != x {
				t.Errorf("%s: the new term %d: %s, not %s", s, i, text(d, size+i), x)
			}
		}
	}
	if text(d, k) != s {
		t.Errorf("%s is %s by now", s, text(d, k))
	}
}

// P11.2

func TestAllOfOne(t *testing.T) {
	for _, s := range []string{"0", "1", "0xffffffff", "x1", "x31"} {
		comesTo(t, s, s)
	}
	d := with(t, "x2", "9", "x1")
	for n := range 3 {
		if k, e := All(d, n); k != n || e != api.OK || d.Len() != 3 {
			t.Errorf("All(%d): %d, %d", n, k, e)
		}
	}
}

func TestAllOfNone(t *testing.T) {
	for size := range 4 {
		d := term.New()
		for k := range size {
			d.Const(uint32(k))
		}
		for _, no := range noTerms(size) {
			if n, e := All(d, no); n != 0 || e != api.ErrTermNode || d.Len() != size {
				t.Errorf("All(%d) of %d: %d, %d", no, size, n, e)
			}
		}
	}
}

func TestAllOfReckonings(t *testing.T) {
	comesTo(t, "add(x1 5)", "add(x1 5)")
	comesTo(t, "add(5 x1)", "add(x1 5)", "add(x1 5)")
	comesTo(t, "add(2 3)", "5", "5")
	comesTo(t, "sub(x1 x1)", "0", "0")
	comesTo(t, "mul(x1 8)", "sll(x1 3)", "3", "sll(x1 3)")
	comesTo(t, "sub(x1 x2)", "sub(x1 x2)")
}

func TestAllFromWithin(t *testing.T) {
	comesTo(t, "add(add(x1 3) 4)", "add(x1 7)", "7", "add(x1 7)")
	comesTo(t, "or(sub(add(0 x1) x1) add(0 x1))", "x1")
	comesTo(t, "mul(x1 add(3 5))", "sll(x1 3)", "8", "sll(x1 3)")
	comesTo(t, "sub(sub(x1 3) 4)", "add(x1 0xfffffff9)", "0xfffffffd", "add(x1 0xfffffffd)", "0xfffffffc", "0xfffffff9", "add(x1 0xfffffff9)")
	comesTo(t, "sll(sll(x1 32) 4)", "sll(x1 4)", "sll(x1 4)")
	comesTo(t, "xor(mul(x1 4) sll(x1 2))", "0", "0")
	comesTo(t, "slt(divu(x1 1) divu(8 2))", "slt(x1 4)", "4", "slt(x1 4)")
	comesTo(t, "add(add(4 x1) add(x1 4))", "sll(add(x1 4) 1)", "1", "sll(add(x1 4) 1)")
}

// What is made for A has the smaller numbers.
func TestAHasItsTurnFirst(t *testing.T) {
	comesTo(t, "sub(mul(x1 4) mul(x1 8))", "sub(sll(x1 2) sll(x1 3))",
		"2", "sll(x1 2)", "3", "sll(x1 3)", "sub(sll(x1 2) sll(x1 3))")
	comesTo(t, "sub(mul(x1 8) mul(x1 4))", "sub(sll(x1 3) sll(x1 2))",
		"3", "sll(x1 3)", "2", "sll(x1 2)", "sub(sll(x1 3) sll(x1 2))")
	comesTo(t, "add(mul(x2 8) mul(x1 4))", "add(sll(x2 3) sll(x1 2))",
		"3", "sll(x2 3)", "2", "sll(x1 2)", "add(sll(x2 3) sll(x1 2))")
	comesTo(t, "div(x1 sub(x2 9))", "div(x1 add(x2 0xfffffff7))",
		"0xfffffff7", "add(x2 0xfffffff7)", "div(x1 add(x2 0xfffffff7))")
	comesTo(t, "div(div(sub(x1 1) sub(x1 2)) sub(x1 4))",
		"div(div(add(x1 0xffffffff) add(x1 0xfffffffe)) add(x1 0xfffffffc))",
		"0xffffffff", "add(x1 0xffffffff)", "0xfffffffe", "add(x1 0xfffffffe)",
		"div(add(x1 0xffffffff) add(x1 0xfffffffe))", "0xfffffffc", "add(x1 0xfffffffc)",
		"div(div(add(x1 0xffffffff) add(x1 0xfffffffe)) add(x1 0xfffffffc))")
}

// B may have the smaller number, and be what A was made of.
func TestPartsInAnyOrder(t *testing.T) {
	d := with(t, "x1", "8", "mul(x1 8)", "mul(mul(x1 8) 8)")
	n := made(t)(d.Op(api.Div, 3, 2))
	k := made(t)(All(d, n))
	if text(d, k) != "div(sll(x1 6) sll(x1 3))" {
		t.Error(text(d, k))
	}
	n = made(t)(d.Op(api.Div, 2, 3))
	k = made(t)(All(d, n))
	if text(d, k) != "div(sll(x1 3) sll(x1 6))" {
		t.Error(text(d, k))
	}
}

// Of a term that doubles itself so often there are more ways to the register than could ever be gone.
func TestSharedParts(t *testing.T) {
	d := term.New()
	x := made(t)(d.Var(4))
	n := x
	for range 3000 {
		half := n
		n = made(t)(d.Op(api.Mul, half, half))
		n = made(t)(d.Op(api.Xor, half, n))
		n = made(t)(d.Op(api.Sub, n, half))
		n = made(t)(d.Op(api.Sltu, half, n))
	}
	k := made(t)(All(d, n))
	size := d.Len()
	if made(t)(All(d, k)) != k || d.Len() != size {
		t.Error("it does not stay")
	}
	v, _ := d.Eval(n, [32]uint32{4: 9})
	if w, e := d.Eval(k, [32]uint32{4: 9}); v != w || e != api.OK {
		t.Errorf("%d, %d, not %d", w, e, v)
	}
}

func TestSharedPartsThatVanish(t *testing.T) {
	d := term.New()
	n := made(t)(d.Var(4))
	for range 5000 {
		n = made(t)(d.Op(api.And, n, n))
		n = made(t)(d.Op(api.Or, n, n))
	}
	if k := made(t)(All(d, n)); text(d, k) != "x4" {
		t.Error(text(d, k))
	}
}

func TestDeepTerms(t *testing.T) {
	const deep = 1 << 18
	d := term.New()
	x := made(t)(d.Var(1))
	one := d.Const(1)
	ahead, behind, apart := x, x, x
	for range deep {
		ahead = made(t)(d.Op(api.Add, ahead, one))
		behind = made(t)(d.Op(api.Add, one, behind))
		apart = made(t)(d.Op(api.Div, one, apart))
	}
	for _, n := range []int{ahead, behind} {
		if k := made(t)(All(d, n)); text(d, k) != "add(x1 0x40000)" {
			t.Error(text(d, k))
		}
	}
	if k := made(t)(All(d, apart)); k != apart {
		t.Errorf("%d, not %d", k, apart)
	}
}

// What is made simple among many others takes no longer for them.
func TestSmallTermsAmongMany(t *testing.T) {
	d := with(t, "x1")
	for k := range uint32(1 << 18) {
		d.Const(k)
	}
	n := raw(t, d, "mul(x1 add(3 5))")
	for range 1 << 16 {
		if k := made(t)(All(d, n)); text(d, k) != "sll(x1 3)" {
			t.Fatal(text(d, k))
		}
	}
}
