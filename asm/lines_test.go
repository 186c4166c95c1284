package asm

import (
	"slices"
	"strings"
	"testing"

	"whetstone/api"
)

// program is an instruction of each kind, or several, and its lines.
func program() ([]api.Inst, string) {
	var l []api.Inst
	s := ""
	for _, r := range rows() {
		for i, n := range sampleNumbers(r) {
			x := made(r, (r.op+i)%32, (2*r.op+i)%32, (3*r.op+1)%32, n)
			l = append(l, x)
			s += written(r, x) + "\n"
		}
	}
	return l, s
}

func noLines(t *testing.T, s string) {
	t.Helper()
	if l, e := Read(s); len(l) != 0 || e != api.ErrAsmForm {
		t.Errorf("Read(%.80q) = %v, %v", s, l, e)
	}
}

// P5.2, P5.3

func TestLinesThereAndBack(t *testing.T) {
	l, want := program()
	for n := range len(l) + 1 {
		k := 0
		for range n {
			k += strings.IndexByte(want[k:], '\n') + 1
		}
		s, e := Lines(l[:n])
		if s != want[:k] || e != api.OK {
			t.Fatalf("Lines of %d: %q, %v", n, s, e)
		}
		if m, e := Read(s); !slices.Equal(m, l[:n]) || e != api.OK {
			t.Fatalf("Read of %d lines: %v, %v", n, m, e)
		}
	}
}

func TestLinesOfNone(t *testing.T) {
	for _, l := range [][]api.Inst{nil, {}} {
		if s, e := Lines(l); s != "" || e != api.OK {
			t.Errorf("%q, %v", s, e)
		}
	}
	if l, e := Read(""); len(l) != 0 || e != api.OK {
		t.Errorf("%v, %v", l, e)
	}
}

func TestLinesOfTheSameTwice(t *testing.T) {
	x := api.Inst{Op: api.Ecall}
	if s, e := Lines([]api.Inst{x, x, x}); s != "ecall\necall\necall\n" || e != api.OK {
		t.Errorf("%q, %v", s, e)
	}
	if l, e := Read("ecall\necall\necall\n"); !slices.Equal(l, []api.Inst{x, x, x}) || e != api.OK {
		t.Errorf("%v, %v", l, e)
	}
}

func TestLinesOfWhatIsNotRight(t *testing.T) {
	l, _ := program()
	for _, wrong := range []api.Inst{{Op: -1}, {Op: api.Ops}, {Op: api.Add, Rd: 32}, {Op: api.Add, Imm: 1}, {Op: api.Addi, Imm: 2048}, {Op: api.Beq, Imm: 3}, {Op: api.Ecall, Rd: 1}} {
		for at := range len(l) {
			m := slices.Clone(l)
			m[at] = wrong
			if s, e := Lines(m); s != "" || e != api.ErrInstForm {
				t.Fatalf("%+v at %d: %q, %v", wrong, at, s, e)
			}
		}
	}
}

func TestReadOfNoLines(t *testing.T) {
	for _, s := range []string{
		"\n", "\n\n", " ", " \n", "ecall", "ecall\n\n", "\necall\n", "ecall\n\necall\n", "ecall\r\n", "ecall\n\r", "ecall\r", "ecall \n", " ecall\n", "ecall\n ", "ecall\n\x00", "ecall\nx\n", "x\necall\n", "ecall\nebreak", "ecall ebreak\n", "ecall;ebreak\n", "ecall\n# more\n", "ecall\nadd x1, x2\n", "ecall\nadd x1, x2, x3", "add x1,\nx2, x3\n", "add x1, x2, x03\necall\n", "ecall\nECALL\n", "ecall\u2028ebreak\n", "ecall\v\n",
		"addi x1, x2, " + strings.Repeat("9", 100000) + "\n", strings.Repeat("\n", 100000), strings.Repeat("ecall\n", 100000) + "ecall", strings.Repeat("ecall\n", 100000) + "\n",
	} {
		noLines(t, s)
	}
}

func TestReadWithOneLineThatIsNone(t *testing.T) {
	l, s := program()
	lines := strings.SplitAfter(s, "\n")[:len(l)]
	for at := range lines {
		for _, wrong := range []string{"\n", "nop\n", "add x1, x2, x32\n", " " + lines[at], strings.TrimSuffix(lines[at], "\n"), strings.TrimSuffix(lines[at], "\n") + " \n"} {
			m := slices.Clone(lines)
			m[at] = wrong
			noLines(t, strings.Join(m, ""))
		}
	}
}

func TestLinesOfMany(t *testing.T) {
	l, s := program()
	many, text := slices.Repeat(l, 200), strings.Repeat(s, 200)
	if u, e := Lines(many); u != text || e != api.OK {
		t.Error(len(u), e)
	}
	if m, e := Read(text); !slices.Equal(m, many) || e != api.OK {
		t.Error(len(m), e)
	}
}

// R4

func TestLinesLeavesWhatIsHandedIn(t *testing.T) {
	l, _ := program()
	n := len(l) / 2
	was := slices.Clone(l)
	first, _ := Lines(l[:n])
	if !slices.Equal(l, was) {
		t.Error("the list, or what stands behind it, was changed")
	}
	kept := strings.Clone(first)
	clear(l)
	if first != kept {
		t.Error("the text hangs on the list")
	}
	wrong := []api.Inst{{Op: api.Ecall}, {Op: -1}, {Op: api.Ecall}}
	was = slices.Clone(wrong)
	Lines(wrong)
	if !slices.Equal(wrong, was) {
		t.Error("a list that is not right was changed")
	}
}

func TestReadAnswersNewMemory(t *testing.T) {
	want, s := program()
	a, _ := Read(s)
	b, _ := Read(s)
	for i := range a[:cap(a)] {
		a[:cap(a)][i] = api.Inst{Op: -7, Rd: -7, Rs1: -7, Rs2: -7, Imm: -7}
	}
	if !slices.Equal(b, want) {
		t.Error("two answers share memory")
	}
	for _, x := range b[len(b):cap(b)] {
		if x != (api.Inst{}) {
			t.Error("two answers share spare room")
		}
	}
	if c, e := Read(s); !slices.Equal(c, want) || e != api.OK {
		t.Error("an answer hangs on an earlier one")
	}
}
