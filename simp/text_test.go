package simp

import (
	"math"
	"strconv"
	"strings"
	"testing"

	"whetstone/api"
	"whetstone/term"
)

// The tests write terms as texts: 7, x1, add(x1 7).

func names() map[string]int {
	return map[string]int{
		"add": api.Add, "sub": api.Sub, "mul": api.Mul, "and": api.And, "or": api.Or, "xor": api.Xor,
		"sll": api.Sll, "srl": api.Srl, "sra": api.Sra, "slt": api.Slt, "sltu": api.Sltu,
		"mulh": api.Mulh, "mulhu": api.Mulhu, "mulhsu": api.Mulhsu,
		"div": api.Div, "rem": api.Rem, "divu": api.Divu, "remu": api.Remu,
	}
}

func name(op int) string {
	for s, k := range names() {
		if k == op {
			return s
		}
	}
	return "?" + strconv.Itoa(op)
}

// text is a term's.
func text(d *term.Dag, n int) string {
	x, e := d.Node(n)
	switch {
	case e != api.OK:
		return "none"
	case x.Kind == api.TermConst && x.V < 4096:
		return strconv.Itoa(int(x.V))
	case x.Kind == api.TermConst:
		return "0x" + strconv.FormatUint(uint64(x.V), 16)
	case x.Kind == api.TermVar:
		return "x" + strconv.Itoa(int(x.V))
	}
	return name(x.Op) + "(" + text(d, x.A) + " " + text(d, x.B) + ")"
}

// parts are a reckoning's: its kind's name, and the texts of its terms.
func parts(s string) (op, a, b string) {
	op, in, _ := strings.Cut(strings.TrimSuffix(s, ")"), "(")
	deep := 0
	for k, c := range in {
		switch c {
		case '(':
			deep++
		case ')':
			deep--
		case ' ':
			if deep == 0 {
				return op, in[:k], in[k+1:]
			}
		}
	}
	panic("no reckoning: " + s)
}

// raw makes a text's term as it stands, by the calls of package term alone.
func raw(t *testing.T, d *term.Dag, s string) int {
	t.Helper()
	if v, e := strconv.ParseUint(s, 0, 32); e == nil {
		return d.Const(uint32(v))
	}
	if r, e := strconv.Atoi(s[1:]); e == nil && s[0] == 'x' {
		return made(t)(d.Var(r))
	}
	op, a, b := parts(s)
	k, is := names()[op]
	if !is {
		t.Fatal("no kind: " + s)
	}
	l := raw(t, d, a)
	return made(t)(d.Op(k, l, raw(t, d, b)))
}

// with has some texts' terms, as they stand, in this order.
func with(t *testing.T, l ...string) *term.Dag {
	t.Helper()
	d := term.New()
	for _, s := range l {
		raw(t, d, s)
	}
	return d
}

// made is a call's number, beside which no error may stand.
func made(t *testing.T) func(n int, e api.Errno) int {
	return func(n int, e api.Errno) int {
		t.Helper()
		if e != api.OK {
			t.Fatalf("error %d", e)
		}
		return n
	}
}

// ask is Op of a text's reckoning, whose parts are made as they stand.
func ask(t *testing.T, d *term.Dag, s string) int {
	t.Helper()
	op, a, b := parts(s)
	l := raw(t, d, a)
	return made(t)(Op(d, names()[op], l, raw(t, d, b)))
}

// become holds Op of a text's reckoning, its parts being there, against the text
// that it must tell, and against what it must make for it, in its order.
func become(t *testing.T, d *term.Dag, s, want string, news ...string) {
	t.Helper()
	op, a, b := parts(s)
	l := raw(t, d, a)
	r := raw(t, d, b)
	size := d.Len()
	for range 2 { // Once more nothing is left to be made.
		n, e := Op(d, names()[op], l, r)
		if text(d, n) != want || e != api.OK || d.Len() != size+len(news) {
			t.Errorf("%s: %s, %d, of %d new terms; not %s, of %d", s, text(d, n), e, d.Len()-size, want, len(news))
		}
		for k, x := range news {
			if text(d, size+k) != x {
				t.Errorf("%s: the new term %d: %s, not %s", s, k, text(d, size+k), x)
			}
		}
	}
}

// refused holds Op to an error, beside which there is no number, and nothing made.
func refused(t *testing.T, d *term.Dag, op, a, b int, want api.Errno) {
	t.Helper()
	size := d.Len()
	if n, e := Op(d, op, a, b); n != 0 || e != want || d.Len() != size {
		t.Fatalf("Op(%d, %d, %d): %d, %d, of %d terms; not error %d, of %d", op, a, b, n, e, d.Len(), want, size)
	}
}

func noTerms(n int) []int {
	return []int{n, n + 1, n + 31, 1<<31 + n, 1 << 32, 1<<32 + n, math.MaxInt, -1, -2, -n - 1, -1 << 32, n - 1<<32, math.MinInt}
}

func num(v uint32) string {
	if v < 4096 {
		return strconv.Itoa(int(v))
	}
	return "0x" + strconv.FormatUint(uint64(v), 16)
}
