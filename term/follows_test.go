package term

import (
	"math/rand"
	"testing"

	"whetstone/api"
)

// script makes calls in any order on some of a few, which are copied now and
// then, and holds each answer against the model's.
type script struct {
	t  *testing.T
	r  *rand.Rand
	ds []*Dag
	ms []*model
}

func newScript(t *testing.T, seed int64) *script {
	return &script{t: t, r: rand.New(rand.NewSource(seed)), ds: []*Dag{New()}, ms: []*model{{}}}
}

// number is mostly that of a term.
func (s *script) number(m *model) int {
	if s.r.Intn(8) == 0 || len(m.l) == 0 {
		return s.r.Intn(12) - 6 + len(m.l)*s.r.Intn(2)
	}
	if s.r.Intn(2) == 0 {
		return len(m.l) - 1 - s.r.Intn(min(len(m.l), 5))
	}
	return s.r.Intn(len(m.l))
}

func (s *script) kind() int {
	if s.r.Intn(8) == 0 {
		return s.r.Intn(api.Ops+20) - 10
	}
	l := reckonings()
	return l[s.r.Intn(len(l))]
}

func (s *script) step() {
	s.t.Helper()
	k := s.r.Intn(len(s.ds))
	d, m := s.ds[k], s.ms[k]
	var got, want int
	var e, f api.Errno
	switch s.r.Intn(12) {
	case 0, 1:
		v := edges()[s.r.Intn(len(edges()))] + uint32(s.r.Intn(3))
		got, want = d.Const(v), m.word(v)
	case 2, 3:
		r := s.r.Intn(38) - 3
		got, e = d.Var(r)
		want, f = m.register(r)
	case 4:
		if len(s.ds) < 4 {
			s.ds, s.ms = append(s.ds, d.Copy()), append(s.ms, m.copy())
			return
		}
		s.ds[(k+1)%4], s.ms[(k+1)%4] = d.Copy(), m.copy()
	default:
		op, a, b := s.kind(), s.number(m), s.number(m)
		got, e = d.Op(op, a, b)
		want, f = m.reckoning(op, a, b)
	}
	if got != want || e != f || d.Len() != len(m.l) {
		s.t.Fatalf("%d, %d, of %d terms; not %d, %d, of %d", got, e, d.Len(), want, f, len(m.l))
	}
}

func (s *script) matchAll() {
	s.t.Helper()
	for k, d := range s.ds {
		match(s.t, d, s.ms[k], someRegisters(s.r))
	}
}

// P10.1, P10.2

func TestScriptsOfManyCalls(t *testing.T) {
	for seed := range int64(60) {
		s := newScript(t, seed)
		for k := range 400 {
			s.step()
			if k%50 == 0 {
				s.matchAll()
			}
		}
		s.matchAll()
	}
}

func TestSameCallsTellTheSame(t *testing.T) {
	for seed := range int64(10) {
		one, two := newScript(t, seed), newScript(t, seed)
		for range 300 {
			one.step()
			two.step()
		}
		for k, d := range one.ds {
			match(t, d, two.ms[k], someRegisters(one.r))
			match(t, two.ds[k], one.ms[k], someRegisters(two.r))
		}
	}
}

// P10.3

// grown is what a script of many calls has made.
func grown(t *testing.T, seed int64) *Dag {
	s := newScript(t, seed)
	for range 500 {
		s.step()
	}
	return s.ds[0]
}

func TestTwoNumbersTellTwoTerms(t *testing.T) {
	for seed := range int64(20) {
		d := grown(t, seed)
		seen := map[api.Term]int{}
		for n := range d.Len() {
			x, e := d.Node(n)
			if m, is := seen[x]; is || e != api.OK {
				t.Fatalf("%d and %d: %v, %d", m, n, x, e)
			}
			seen[x] = n
		}
	}
}

// Each term, made once more as what Node tells of it, has the number that it had.
func TestMadeTwiceIsOneNumber(t *testing.T) {
	for seed := range int64(20) {
		d := grown(t, seed)
		size := d.Len()
		for n := size - 1; n >= 0; n-- {
			x, _ := d.Node(n)
			switch x.Kind {
			case api.TermConst:
				told(t, d, d.Const(x.V), api.OK, n, size)
			case api.TermVar:
				m, e := d.Var(int(x.V))
				told(t, d, m, e, n, size)
			case api.TermOp:
				m, e := d.Op(x.Op, x.A, x.B)
				told(t, d, m, e, n, size)
			}
		}
	}
}

func TestPartsHaveSmallerNumbers(t *testing.T) {
	for seed := range int64(20) {
		d := grown(t, seed)
		reckoned := 0
		for n := range d.Len() {
			x, _ := d.Node(n)
			if x.Kind != api.TermOp {
				if x.Op != 0 || x.A != 0 || x.B != 0 {
					t.Fatalf("%d: %v", n, x)
				}
				continue
			}
			reckoned++
			if x.V != 0 || x.A < 0 || x.A >= n || x.B < 0 || x.B >= n {
				t.Fatalf("%d: %v", n, x)
			}
		}
		if reckoned < 20 {
			t.Errorf("%d reckonings", reckoned)
		}
	}
}

func TestValueHangsOnVarsAlone(t *testing.T) {
	for seed := range int64(20) {
		d := grown(t, seed)
		r := rand.New(rand.NewSource(seed))
		for n := range d.Len() {
			w, _ := d.Vars(n)
			if w&1 != 0 {
				t.Fatalf("Vars(%d): %#x", n, w)
			}
			x, y := someRegisters(r), someRegisters(r)
			for k := range 32 {
				if w>>k&1 == 1 {
					y[k] = x[k]
				}
			}
			v, _ := d.Eval(n, x)
			comes(t, d, n, y, v)
		}
	}
}
