package simp

import (
	"math/rand"
	"testing"

	"whetstone/api"
	"whetstone/term"
	"whetstone/word"
)

// script makes calls in any order, on terms as they stand and on simple ones,
// and holds each answer against the model's.
type script struct {
	t *testing.T
	r *rand.Rand
	d *term.Dag
	m *model
}

func newScript(t *testing.T, seed int64) *script {
	return &script{t: t, r: rand.New(rand.NewSource(seed)), d: term.New(), m: &model{}}
}

// number is mostly a term's, and often that of one made of late.
func (s *script) number() int {
	if s.r.Intn(30) == 0 || s.d.Len() == 0 {
		return s.r.Intn(12) - 6 + s.d.Len()*s.r.Intn(2)
	}
	if s.r.Intn(2) == 0 {
		return s.d.Len() - 1 - s.r.Intn(min(s.d.Len(), 6))
	}
	return s.r.Intn(s.d.Len())
}

func (s *script) kind() int {
	if s.r.Intn(40) == 0 {
		return s.r.Intn(api.Ops+20) - 10
	}
	if s.r.Intn(2) == 0 { // The kinds that go on, one upon the other.
		l := []int{api.Add, api.Sub, api.And, api.Or, api.Xor, api.Sll, api.Srl, api.Sra, api.Mul, api.Divu}
		return l[s.r.Intn(len(l))]
	}
	l := reckonings()
	return l[s.r.Intn(len(l))]
}

func (s *script) word() uint32 {
	if s.r.Intn(2) == 0 {
		return uint32(s.r.Intn(40))
	}
	return edges()[s.r.Intn(len(edges()))]
}

func (s *script) step() {
	s.t.Helper()
	var got, want int
	var e, f api.Errno
	switch s.r.Intn(12) {
	case 0, 1:
		v := s.word()
		got, want = s.d.Const(v), s.m.word(v)
	case 2:
		r := 1 + s.r.Intn(31)
		got, e = s.d.Var(r)
		want = s.m.make(api.Term{Kind: api.TermVar, V: uint32(r)})
	case 3, 4:
		op, a, b := s.kind(), s.number(), s.number()
		got, e = s.d.Op(op, a, b)
		if e == api.OK {
			want = s.m.raw(op, a, b)
		}
		f = e
	case 5:
		n := s.number()
		got, e = All(s.d, n)
		want, f = s.m.all(n)
	case 6, 7, 8: // A term and a word.
		op, a, v := s.kind(), s.number(), s.word()
		b := s.d.Const(v)
		s.m.word(v)
		got, e = Op(s.d, op, a, b)
		want, f = s.m.asked(op, a, b)
	default:
		op, a, b := s.kind(), s.number(), s.number()
		got, e = Op(s.d, op, a, b)
		want, f = s.m.asked(op, a, b)
	}
	if got != want || e != f || s.d.Len() != len(s.m.l) {
		s.t.Fatalf("%d, %d, of %d terms; not %d, %d, of %d", got, e, s.d.Len(), want, f, len(s.m.l))
	}
}

// P11.1, P11.2

func TestScriptsOfManyCalls(t *testing.T) {
	for seed := range int64(150) {
		s := newScript(t, seed)
		for range 200 {
			s.step()
		}
		match(t, s.d, s.m)
	}
}

func TestSameCallsTellTheSame(t *testing.T) {
	for seed := range int64(20) {
		one, two := newScript(t, seed), newScript(t, seed)
		for range 200 {
			one.step()
			two.step()
		}
		match(t, one.d, two.m)
		match(t, two.d, one.m)
	}
}

// P11.3

// grown are terms as they stand, of each kind and of many shapes.
func grown(t *testing.T, seed int64, size int) *term.Dag {
	r := rand.New(rand.NewSource(seed))
	d := term.New()
	made(t)(d.Var(1))
	made(t)(d.Var(2))
	made(t)(d.Var(31))
	for range 6 {
		d.Const(edges()[r.Intn(len(edges()))])
		d.Const(uint32(r.Intn(40)))
	}
	l := reckonings()
	for d.Len() < size {
		a, b := r.Intn(d.Len()), r.Intn(d.Len())
		if r.Intn(2) == 0 { // A register or a word ahead or behind.
			b = r.Intn(9)
		}
		if r.Intn(4) == 0 {
			a, b = b, a
		}
		made(t)(d.Op(l[r.Intn(len(l))], a, b))
	}
	return d
}

// same holds a term to come to what another one does, and to need no more.
func same(t *testing.T, d *term.Dag, n, was int, r *rand.Rand) {
	t.Helper()
	for range 4 {
		x := someRegisters(r)
		v, _ := d.Eval(n, x)
		w, _ := d.Eval(was, x)
		if v != w {
			t.Fatalf("%s: %#x; %s: %#x; of %v", text(d, n), v, text(d, was), w, x)
		}
	}
	had, _ := d.Vars(was)
	if has, _ := d.Vars(n); has&^had != 0 {
		t.Fatalf("%s needs %#x; %s: %#x", text(d, n), has, text(d, was), had)
	}
}

func TestAllComesToWhatItWas(t *testing.T) {
	for seed := range int64(120) {
		d := grown(t, seed, 60)
		r := rand.New(rand.NewSource(seed))
		for n := d.Len() - 1; n >= 0; n-- {
			same(t, d, made(t)(All(d, n)), n, r)
		}
	}
}

func TestOpComesToWhatItWas(t *testing.T) {
	for seed := range int64(60) {
		d := grown(t, seed, 40)
		r := rand.New(rand.NewSource(seed))
		for range 300 {
			op := reckonings()[r.Intn(18)]
			a, b := r.Intn(40), r.Intn(40)
			n := made(t)(Op(d, op, a, b))
			same(t, d, n, made(t)(d.Op(op, a, b)), r)
		}
	}
}

// Each kind, with each word of the edges behind and ahead, and upon each such
// one once more.
func TestEachRuleComesToWhatItWas(t *testing.T) {
	r := rand.New(rand.NewSource(5))
	for _, op := range reckonings() {
		for _, v := range edges() {
			d := term.New()
			x := made(t)(d.Var(7))
			n := made(t)(Op(d, op, x, d.Const(v)))
			same(t, d, n, made(t)(d.Op(op, x, d.Const(v))), r)
			m := made(t)(Op(d, op, d.Const(v), x))
			same(t, d, m, made(t)(d.Op(op, d.Const(v), x)), r)
			for _, w := range edges() {
				k := made(t)(Op(d, op, n, d.Const(w)))
				same(t, d, k, made(t)(d.Op(op, n, d.Const(w))), r)
			}
			same(t, d, made(t)(Op(d, op, n, x)), made(t)(d.Op(op, n, x)), r)
			same(t, d, made(t)(Op(d, op, n, n)), made(t)(d.Op(op, n, n)), r)
		}
	}
}

func TestOpOfWordsIsTheirReckoning(t *testing.T) {
	for _, op := range reckonings() {
		d := term.New()
		for _, v := range edges() {
			for _, w := range edges() {
				want, _ := word.Do(op, v, w)
				n := made(t)(Op(d, op, d.Const(v), d.Const(w)))
				if x, _ := d.Node(n); x != (api.Term{Kind: api.TermConst, V: want}) {
					t.Fatalf("%s(%#x %#x): %s", name(op), v, w, text(d, n))
				}
			}
		}
	}
}

func TestMadeSimpleAgainItStays(t *testing.T) {
	for seed := range int64(120) {
		d := grown(t, seed, 60)
		for n := range 60 {
			k := made(t)(All(d, n))
			size := d.Len()
			if again := made(t)(All(d, k)); again != k || d.Len() != size {
				t.Fatalf("%s: again %s", text(d, k), text(d, again))
			}
			if again := made(t)(All(d, n)); again != k || d.Len() != size {
				t.Fatalf("%s: %s, then %s", text(d, n), text(d, k), text(d, again))
			}
		}
	}
}

// What is made by Op alone of registers and words is simple already.
func TestWhatOpMakesIsSimple(t *testing.T) {
	for seed := range int64(60) {
		r := rand.New(rand.NewSource(seed))
		d := term.New()
		l := []int{made(t)(d.Var(1)), made(t)(d.Var(2)), d.Const(0), d.Const(edges()[r.Intn(len(edges()))])}
		for range 150 {
			op := reckonings()[r.Intn(18)]
			l = append(l, made(t)(Op(d, op, l[r.Intn(len(l))], l[r.Intn(len(l))])))
		}
		size := d.Len()
		for _, n := range l {
			if k := made(t)(All(d, n)); k != n || d.Len() != size {
				t.Fatalf("%s: %s", text(d, n), text(d, k))
			}
		}
	}
}
