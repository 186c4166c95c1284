package mem

import (
	"math"
	"slices"
	"strings"
	"testing"

	"whetstone/api"
)

const last = math.MaxUint32

// window is a stretch of a memory, written out byte by byte: what the memory must tell there.
type window struct {
	from  uint32
	bytes [64]byte
}

func (w *window) store(addr uint32, n int, v uint32) {
	for k := range n {
		w.bytes[addr-w.from+uint32(k)] = byte(v % 256)
		v /= 256
	}
}

func (w *window) load(addr uint32, n int) uint32 {
	v := uint32(0)
	for k := n - 1; k >= 0; k-- {
		v = v*256 + uint32(w.bytes[addr-w.from+uint32(k)])
	}
	return v
}

func (w *window) cells() []api.Cell {
	l := []api.Cell{}
	for k, b := range w.bytes {
		if b != 0 {
			l = append(l, api.Cell{Addr: w.from + uint32(k), B: b})
		}
	}
	slices.SortFunc(l, func(a, b api.Cell) int {
		if a.Addr < b.Addr {
			return -1
		}
		return 1
	})
	return l
}

// windows lie at the first bytes, amid, where the sign of an address changes, and over the end.
func windows() []window {
	return []window{{from: 0}, {from: 0x1001}, {from: 1<<31 - 31}, {from: last - 63}, {from: last - 30}, {from: last - 1}}
}

// match holds all that a memory tells of a window, and of the bytes beside it, against what it must be.
func match(t *testing.T, m *Mem, w *window) {
	t.Helper()
	if l := m.Cells(); !slices.Equal(l, w.cells()) {
		t.Fatalf("from %#x: Cells: %v, not %v", w.from, l, w.cells())
	}
	if s := m.Bytes(w.from, 64); s != string(w.bytes[:]) {
		t.Fatalf("from %#x: Bytes: %q, not %q", w.from, s, w.bytes[:])
	}
	if s := m.Bytes(w.from-4, 72); s != "\x00\x00\x00\x00"+string(w.bytes[:])+"\x00\x00\x00\x00" {
		t.Fatalf("from %#x: a byte beside it: %q", w.from, s)
	}
	for _, n := range []int{1, 2, 4} {
		for k := range uint32(64 - n + 1) {
			loads(t, m, w.from+k, n, w.load(w.from+k, n))
		}
	}
}

func loads(t *testing.T, m *Mem, addr uint32, n int, want uint32) {
	t.Helper()
	if v, e := m.Load(addr, n); v != want || e != api.OK {
		t.Fatalf("Load(%#x, %d): %#x, %d, not %#x", addr, n, v, e, want)
	}
}

func stores(t *testing.T, m *Mem, addr uint32, n int, v uint32) {
	t.Helper()
	if e := m.Store(addr, n, v); e != api.OK {
		t.Fatalf("Store(%#x, %d, %#x): %d", addr, n, v, e)
	}
}

func hasCells(t *testing.T, m *Mem, want ...api.Cell) {
	t.Helper()
	if l := m.Cells(); !slices.Equal(l, want) {
		t.Errorf("Cells: %v, not %v", l, want)
	}
}

// P3.1

func TestNewIsOfNoughts(t *testing.T) {
	m := New()
	hasCells(t, m)
	for _, addr := range []uint32{0, 1, 4095, 1 << 31, last - 3, last - 2, last - 1, last} {
		for _, n := range []int{1, 2, 4} {
			loads(t, m, addr, n, 0)
		}
		if s := m.Bytes(addr, 9); s != strings.Repeat("\x00", 9) {
			t.Errorf("Bytes(%#x, 9): %q", addr, s)
		}
	}
}

func TestEachNewOneIsItsOwn(t *testing.T) {
	a, b := New(), New()
	stores(t, a, 7, 1, 9)
	hasCells(t, b)
	stores(t, b, 8, 1, 6)
	hasCells(t, a, api.Cell{Addr: 7, B: 9})
	hasCells(t, New())
}

func TestEachAddressHasItsByte(t *testing.T) {
	m := New()
	want := []api.Cell{{Addr: 0, B: 100}}
	stores(t, m, 0, 1, 100)
	for k := range 32 {
		stores(t, m, 1<<k, 1, uint32(k)+1)
		want = append(want, api.Cell{Addr: 1 << k, B: byte(k) + 1})
	}
	stores(t, m, last, 1, 99)
	want = append(want, api.Cell{Addr: last, B: 99})
	hasCells(t, m, want...)
	for _, c := range want {
		loads(t, m, c.Addr, 1, uint32(c.B))
	}
}

func TestBehindTheLastByteComesTheFirst(t *testing.T) {
	m := New()
	stores(t, m, last, 2, 0x1234)
	hasCells(t, m, api.Cell{Addr: 0, B: 0x12}, api.Cell{Addr: last, B: 0x34})
	loads(t, m, 0, 1, 0x12)
	loads(t, m, last, 1, 0x34)
	loads(t, m, last, 2, 0x1234)
	for k := range uint32(4) {
		m := New()
		stores(t, m, last-k, 4, 0x04030201)
		loads(t, m, last-k, 4, 0x04030201)
		for j := range uint32(4) {
			loads(t, m, last-k+j, 1, j+1)
		}
		m.Put(last-k, "abcd")
		loads(t, m, last-k, 4, 0x64636261)
		if s := m.Bytes(last-k-1, 6); s != "\x00abcd\x00" {
			t.Errorf("%d: %q", k, s)
		}
	}
}

// P3.2

func TestStoreAndLoadAtEachPlace(t *testing.T) {
	for _, w := range windows() {
		for _, n := range []int{1, 2, 4} {
			for k := range uint32(64 - n + 1) {
				m, w := New(), w
				stores(t, m, w.from+k, n, 0x84c3a2f1)
				w.store(w.from+k, n, 0x84c3a2f1)
				match(t, m, &w)
			}
		}
	}
}

func TestStoreIsModulo(t *testing.T) {
	for _, x := range []struct {
		n       int
		v, want uint32
	}{
		{1, 0, 0}, {1, 0xff, 0xff}, {1, 0x100, 0}, {1, 0x1ff, 0xff}, {1, last, 0xff}, {1, 0xffffff00, 0},
		{2, 0xffff, 0xffff}, {2, 0x10000, 0}, {2, 0x1ffff, 0xffff}, {2, last, 0xffff}, {2, 0x8000, 0x8000},
		{4, last, last}, {4, 1 << 31, 1 << 31}, {4, 0x12345678, 0x12345678},
	} {
		m := New()
		stores(t, m, 40, x.n, x.v)
		loads(t, m, 40, x.n, x.want)
		loads(t, m, 40, 4, x.want)
		loads(t, m, 44, 4, 0)
		loads(t, m, 36, 4, 0)
	}
}

func TestOtherWidthsAreNone(t *testing.T) {
	m := New()
	m.Put(8, "abcdefgh")
	before := m.Cells()
	for _, n := range []int{0, 3, 5, -1, -2, -4, 6, 7, 8, 9, 16, 32, 64, 256 + 1, 1<<32 + 1, 1<<32 + 2, 1<<32 + 4, 1<<63 - 1, -1 << 63} {
		for _, addr := range []uint32{8, 0, last, last - 1} {
			if v, e := m.Load(addr, n); v != 0 || e != api.ErrArg {
				t.Errorf("Load(%#x, %d): %#x, %d", addr, n, v, e)
			}
			if e := m.Store(addr, n, 0x55555555); e != api.ErrArg {
				t.Errorf("Store(%#x, %d): %d", addr, n, e)
			}
			if e := m.Store(addr, n, 0); e != api.ErrArg {
				t.Errorf("Store(%#x, %d): %d", addr, n, e)
			}
		}
		if l := m.Cells(); !slices.Equal(l, before) {
			t.Fatalf("width %d: %v", n, l)
		}
	}
}

// P3.3

func TestPutIsItsText(t *testing.T) {
	all := make([]byte, 256)
	for k := range all {
		all[k] = byte(k)
	}
	for _, s := range []string{"a", "ab", "\x00a", "a\x00", "\xff\x80\xc3", "héł", string(all), strings.Repeat("x", 5000)} {
		for _, addr := range []uint32{0, 1, 77, 1<<31 - 1, last - 3, last} {
			m := New()
			m.Put(addr, s)
			if got := m.Bytes(addr, len(s)); got != s {
				t.Errorf("Put(%#x, %q): %q", addr, s, got)
			}
			if got := m.Bytes(addr-2, len(s)+4); got != "\x00\x00"+s+"\x00\x00" {
				t.Errorf("Put(%#x, %q), a byte beside it: %q", addr, s, got)
			}
		}
	}
}

func TestPutOfNothing(t *testing.T) {
	m := New()
	m.Put(0, "")
	m.Put(last, "")
	hasCells(t, m)
	m.Put(5, "z")
	m.Put(5, "")
	hasCells(t, m, api.Cell{Addr: 5, B: 'z'})
}

func TestPutOverwrites(t *testing.T) {
	m := New()
	m.Put(10, "abcdef")
	m.Put(12, "\x00Z\x00")
	hasCells(t, m, api.Cell{Addr: 10, B: 'a'}, api.Cell{Addr: 11, B: 'b'}, api.Cell{Addr: 13, B: 'Z'}, api.Cell{Addr: 15, B: 'f'})
	if s := m.Bytes(9, 8); s != "\x00ab\x00Z\x00f\x00" {
		t.Errorf("%q", s)
	}
}

func TestBytesOfNone(t *testing.T) {
	m := New()
	m.Put(0, "abc")
	m.Put(last-2, "xyz")
	for _, n := range []int{0, -1, -2, -3, math.MinInt32, -1 << 32, 1 - 1<<32, math.MinInt} {
		for _, addr := range []uint32{0, 2, last} {
			if s := m.Bytes(addr, n); s != "" {
				t.Errorf("Bytes(%#x, %d): %q", addr, n, s)
			}
		}
	}
	if s := m.Bytes(last, 1); s != "z" {
		t.Errorf("%q", s)
	}
	if s := m.Bytes(last-2, 6); s != "xyzabc" {
		t.Errorf("%q", s)
	}
}

// Of answers beyond the document's bound nothing is promised; this is that they do not panic.
func TestBytesBeyondAllRoom(t *testing.T) {
	for _, n := range []int{1 << 31, 1<<32 + 1, math.MaxInt} {
		New().Bytes(3, n)
	}
}

func TestCellsRise(t *testing.T) {
	m := New()
	want := []api.Cell{}
	for k := range uint32(500) {
		addr := k * 0x9e3779b1
		stores(t, m, addr, 1, k%255+1)
		want = append(want, api.Cell{Addr: addr, B: byte(k%255 + 1)})
	}
	slices.SortFunc(want, func(a, b api.Cell) int { return int(a.Addr) - int(b.Addr) })
	for range 3 {
		hasCells(t, m, want...)
	}
}

func TestCellsWithoutNoughts(t *testing.T) {
	m := New()
	stores(t, m, 100, 4, 0)
	m.Put(200, "\x00\x00\x00")
	hasCells(t, m)
	stores(t, m, 100, 4, 0x11223344)
	stores(t, m, 101, 2, 0)
	hasCells(t, m, api.Cell{Addr: 100, B: 0x44}, api.Cell{Addr: 103, B: 0x11})
	stores(t, m, 100, 1, 0xff00)
	m.Put(103, "\x00")
	hasCells(t, m)
	if len(m.bytes) != 0 {
		t.Errorf("%d bytes that are 0 again are still kept", len(m.bytes))
	}
	stores(t, m, 103, 1, 5)
	hasCells(t, m, api.Cell{Addr: 103, B: 5})
}

func TestCellsAreNewMemory(t *testing.T) {
	m := New()
	m.Put(3, "abc")
	want := []api.Cell{{Addr: 3, B: 'a'}, {Addr: 4, B: 'b'}, {Addr: 5, B: 'c'}}
	one, two := m.Cells(), m.Cells()
	for _, l := range [][]api.Cell{one, one[:cap(one)]} {
		for k := range l {
			l[k] = api.Cell{Addr: 77, B: 77}
		}
	}
	if !slices.Equal(two, want) {
		t.Errorf("a second list: %v", two)
	}
	hasCells(t, m, want...)
	m.Put(3, "xyz")
	if !slices.Equal(two, want) {
		t.Errorf("a list from before: %v", two)
	}
}

func TestCopyGoesItsOwnWay(t *testing.T) {
	for _, w := range windows() {
		m := New()
		m.Put(w.from+8, "original")
		copy(w.bytes[8:], "original")
		c := m.Copy()
		match(t, c, &w)
		cw, cc := w, c.Copy()
		stores(t, m, w.from+8, 4, 0)
		stores(t, m, w.from+30, 2, 0xbeef)
		w.store(w.from+8, 4, 0)
		w.store(w.from+30, 2, 0xbeef)
		match(t, c, &cw)
		match(t, m, &w)
		c.Put(w.from+10, "\x00\x00copy")
		copy(cw.bytes[10:], "\x00\x00copy")
		match(t, c, &cw)
		match(t, m, &w)
		if s := cc.Bytes(w.from+8, 8); s != "original" {
			t.Errorf("a copy's copy: %q", s)
		}
	}
}

func TestCopyOfNoughts(t *testing.T) {
	m := New()
	c := m.Copy()
	hasCells(t, c)
	stores(t, c, 1, 2, 0x0203)
	hasCells(t, m)
	hasCells(t, c, api.Cell{Addr: 1, B: 3}, api.Cell{Addr: 2, B: 2})
}

// P3.4

// steps are numbers in a fixed order that looks like none.
func steps(state *uint32) uint32 {
	*state = *state*1664525 + 1013904223
	return *state >> 8
}

func TestManyStoresAndLoads(t *testing.T) {
	state := uint32(1)
	for _, w := range windows() {
		m := New()
		for range 1000 {
			n := []int{1, 2, 4}[steps(&state)%3]
			addr := w.from + steps(&state)%uint32(64-n+1)
			v := steps(&state)<<16 ^ steps(&state)
			if steps(&state)%4 == 0 {
				v &= 0x00ff00ff
			}
			if steps(&state)%8 == 0 {
				v = 0
			}
			stores(t, m, addr, n, v)
			w.store(addr, n, v)
			loads(t, m, addr, n, w.load(addr, n))
		}
		match(t, m, &w)
	}
}

func TestStoredIsLoadedInParts(t *testing.T) {
	for _, addr := range []uint32{0, 1, 2, 3, 0x7fffffff, last - 3, last - 2, last - 1, last} {
		m := New()
		stores(t, m, addr, 4, 0x89abcdef)
		for _, x := range []struct {
			off  uint32
			n    int
			want uint32
		}{{0, 4, 0x89abcdef}, {0, 2, 0xcdef}, {1, 2, 0xabcd}, {2, 2, 0x89ab}, {3, 2, 0x89}, {last, 2, 0xef00}, {0, 1, 0xef}, {1, 1, 0xcd}, {2, 1, 0xab}, {3, 1, 0x89}, {4, 4, 0}, {2, 4, 0x89ab}, {last - 1, 4, 0xcdef0000}} {
			loads(t, m, addr+x.off, x.n, x.want)
		}
		p := New()
		stores(t, p, addr, 1, 0xef)
		stores(t, p, addr+1, 2, 0xabcd)
		stores(t, p, addr+3, 1, 0x89)
		loads(t, p, addr, 4, 0x89abcdef)
		if !slices.Equal(p.Cells(), m.Cells()) {
			t.Errorf("at %#x: %v, %v", addr, p.Cells(), m.Cells())
		}
	}
}

func TestSameCellsJustIfSameBytes(t *testing.T) {
	a, b := New(), New()
	a.Put(last-1, "abcd")
	for k, c := range []byte("dcba") {
		stores(t, b, 1-uint32(k), 1, uint32(c))
	}
	stores(t, b, 50, 4, last)
	stores(t, b, 50, 4, 0)
	if !slices.Equal(a.Cells(), b.Cells()) || a.Bytes(last-3, 64) != b.Bytes(last-3, 64) {
		t.Errorf("%v, %v", a.Cells(), b.Cells())
	}
	for _, addr := range []uint32{last - 1, last, 0, 1, 2, 1 << 31} {
		c := a.Copy()
		v, _ := c.Load(addr, 1)
		stores(t, c, addr, 1, v+1)
		if slices.Equal(a.Cells(), c.Cells()) {
			t.Errorf("another byte at %#x is not told", addr)
		}
	}
}
