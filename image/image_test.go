package image

import (
	"math"
	"math/rand"
	"slices"
	"strings"
	"testing"
	"unsafe"

	"whetstone/api"
	"whetstone/elf"
	"whetstone/mem"
)

// same tells whether two programs are one.
func same(x, y api.Elf) bool {
	return x.Entry == y.Entry && x.Flags == y.Flags && slices.Equal(x.Segs, y.Segs)
}

// alike tells whether two images are one.
func alike(i, j api.Image) bool {
	return i.Base == j.Base && i.Entry == j.Entry && i.Seg == j.Seg && slices.Equal(i.Words, j.Words)
}

// text is a segment that is run, of these bytes.
func text(addr uint32, data string) api.Seg {
	return api.Seg{Addr: addr, Data: data, Size: len(data), Flags: api.FlagRead | api.FlagRun}
}

// of is a program that begins at an address, with the segments.
func of(entry uint32, l ...api.Seg) api.Elf {
	return api.Elf{Entry: entry, Flags: 0x87654321, Segs: l}
}

// pair is a program with a text of two words and another segment behind it.
func pair() api.Elf {
	return of(0x1004, text(0x1000, "\x13\x00\x00\x00\x73\x01\x02\xff"), api.Seg{Addr: 0x2000, Data: "xy\x00z", Size: 9, Flags: 6})
}

// cased is a program with a name for what it is a case of.
type cased struct {
	name string
	x    api.Elf
	want api.Image
}

// ordinary are programs that have a text.
func ordinary() []cased {
	a, b := api.Seg{Addr: 0x100, Data: "data", Size: 8, Flags: 6}, api.Seg{Addr: 0x8001, Size: 3, Flags: 4}
	four, eight := "\x01\x02\x03\x04", "\xff\xfe\xfd\xfc\x00\x00\x00\x80"
	return []cased{
		{"the chapter's example", api.Elf{Entry: 0x1000, Segs: []api.Seg{{Addr: 0x1000, Data: "\x13\x00\x00\x00", Size: 4, Flags: 5}}},
			api.Image{Base: 0x1000, Entry: 0x1000, Words: []uint32{0x13}}},
		{"alone", of(0x1000, text(0x1000, four)), api.Image{Base: 0x1000, Entry: 0x1000, Words: []uint32{0x04030201}}},
		{"first", of(0x1004, text(0x1000, eight), a, b), api.Image{Base: 0x1000, Entry: 0x1004, Words: []uint32{0xfcfdfeff, 1 << 31}}},
		{"amid", of(0x1000, a, text(0x1000, eight), b), api.Image{Base: 0x1000, Entry: 0x1000, Words: []uint32{0xfcfdfeff, 1 << 31}, Seg: 1}},
		{"last", of(0x1000, a, b, text(0x1000, four)), api.Image{Base: 0x1000, Entry: 0x1000, Words: []uint32{0x04030201}, Seg: 2}},
		{"last though least", of(4, a, b, text(0, eight)), api.Image{Entry: 4, Words: []uint32{0xfcfdfeff, 1 << 31}, Seg: 2}},
		{"run alone", of(0, api.Seg{Data: "\x00\x00\x00\x00", Size: 4, Flags: api.FlagRun}), api.Image{Words: []uint32{0}}},
		{"up to the end", of(math.MaxUint32-3, b, text(math.MaxUint32-7, eight)), api.Image{Base: math.MaxUint32 - 7, Entry: math.MaxUint32 - 3, Words: []uint32{0xfcfdfeff, 1 << 31}, Seg: 1}},
		{"the last word", of(math.MaxUint32-3, text(math.MaxUint32-3, four)), api.Image{Base: math.MaxUint32 - 3, Entry: math.MaxUint32 - 3, Words: []uint32{0x04030201}}},
		{"over half of the addresses", of(1<<31, text(1<<31-4, eight)), api.Image{Base: 1<<31 - 4, Entry: 1 << 31, Words: []uint32{0xfcfdfeff, 1 << 31}}},
		{"side by side", of(0x104, api.Seg{Addr: 0x100, Data: "abcd", Size: 4, Flags: 6}, text(0x104, four), api.Seg{Addr: 0x108, Data: "efgh", Size: 4}), api.Image{Base: 0x104, Entry: 0x104, Words: []uint32{0x04030201}, Seg: 1}},
		{"sixteen", of(0x1000, full()...), api.Image{Base: 0x1000, Entry: 0x1000, Words: []uint32{0x04030201}, Seg: 15}},
	}
}

// full are as many segments as there may be; the last one is a text.
func full() []api.Seg {
	l := make([]api.Seg, api.MaxSegs)
	for k := range l {
		l[k] = api.Seg{Addr: uint32(k) * 8, Data: strings.Repeat("x", k%9), Size: 8, Flags: []int{0, 2, 4, 6}[k%4]}
	}
	l[api.MaxSegs-1] = text(0x1000, "\x01\x02\x03\x04")
	return l
}

// refuses fails unless Of and With answer the error e, and nothing beside it.
func refuses(t *testing.T, name string, x api.Elf, e api.Errno) {
	t.Helper()
	i, got := Of(x)
	if got != e || !alike(i, api.Image{}) {
		t.Errorf("%s: Of is %+v, %v; not %v", name, i, got, e)
	}
	for _, words := range [][]uint32{nil, {}, {1}, {1, 2}, make([]uint32, 9)} {
		if y, got := With(x, words); got != e || !same(y, api.Elf{}) {
			t.Errorf("%s: With of %d words is %+v, %v; not %v", name, len(words), y, got, e)
		}
	}
}

// P7.1

func TestOfOrdinary(t *testing.T) {
	for _, c := range ordinary() {
		if i, e := Of(c.x); e != api.OK || !alike(i, c.want) {
			t.Errorf("%s: %+v, %v; not %+v", c.name, i, e, c.want)
		}
	}
}

func TestOfEachBit(t *testing.T) {
	for k := range 64 {
		b := make([]byte, 8)
		b[k/8] = 1 << (k % 8)
		want := []uint32{0, 0}
		want[k/32] = 1 << (k % 32)
		if i, e := Of(of(0, text(0, string(b)))); e != api.OK || !slices.Equal(i.Words, want) {
			t.Errorf("bit %d: %x, %v", k, i.Words, e)
		}
	}
}

func TestOfManyWords(t *testing.T) {
	for _, n := range []int{1, 2, 3, 7, 255, 256, 257, 4096, api.MaxSize / 4} {
		b := make([]byte, 4*n)
		rand.New(rand.NewSource(int64(n))).Read(b)
		base := uint32(1<<32 - 4*n)
		i, e := Of(of(base+4*uint32(n/2), text(base, string(b))))
		if e != api.OK || len(i.Words) != n || i.Base != base || i.Entry != base+4*uint32(n/2) || i.Seg != 0 {
			t.Fatalf("%d words: %d, %v", n, len(i.Words), e)
		}
		for k, w := range i.Words {
			if w != uint32(b[4*k])+uint32(b[4*k+1])*256+uint32(b[4*k+2])*65536+uint32(b[4*k+3])*16777216 {
				t.Fatalf("%d words: word %d is %#x", n, k, w)
			}
		}
	}
}

func TestOfFlags(t *testing.T) {
	for f := range 8 {
		x := pair()
		x.Segs[0].Flags = f
		switch f {
		case api.FlagRun, api.FlagRun | api.FlagRead:
			if i, e := Of(x); e != api.OK || i.Seg != 0 {
				t.Errorf("flags %d: %+v, %v", f, i, e)
			}
		default:
			refuses(t, "flags", x, api.ErrImageText)
		}
		y := pair()
		y.Segs[1].Flags = f
		if f&api.FlagRun != 0 {
			refuses(t, "another one that is run", y, api.ErrImageText)
		} else if i, e := Of(y); e != api.OK || i.Seg != 0 {
			t.Errorf("flags %d of another one: %+v, %v", f, i, e)
		}
	}
	refuses(t, "no segment", of(0), api.ErrImageText)
	refuses(t, "an empty list of segments", of(0, []api.Seg{}...), api.ErrImageText)
	refuses(t, "two texts", of(0, text(0, "abcd"), text(4, "abcd")), api.ErrImageText)
	refuses(t, "three texts", of(0, text(0, "abcd"), text(4, "abcd"), text(8, "abcd")), api.ErrImageText)
	// The second one that is run is no text by itself; it counts all the same.
	refuses(t, "a text and a piece", of(0, text(0, "abcd"), text(5, "abc")), api.ErrImageText)
	refuses(t, "a piece and a text", of(0, api.Seg{Addr: 5, Size: 3, Flags: 3}, text(0, "abcd")), api.ErrImageText)
}

func TestOfPlacesAndSizes(t *testing.T) {
	for addr := range uint32(9) {
		for n := range 10 {
			for more := range 6 {
				g := text(addr, strings.Repeat("w", n))
				g.Size += more
				x := of(addr&^3, g)
				switch {
				case n+more == 0:
					refuses(t, "no bytes at all", x, api.ErrElfForm)
				case addr%4 != 0 || n%4 != 0 || n == 0 || more != 0:
					refuses(t, "an odd text", x, api.ErrImageText)
				default:
					if i, e := Of(x); e != api.OK || i.Base != addr || len(i.Words) != n/4 {
						t.Errorf("%d bytes at %d: %+v, %v", n, addr, i, e)
					}
				}
			}
		}
	}
}

func TestOfEntry(t *testing.T) {
	for _, base := range []uint32{0, 4, 0x1000, 1<<31 - 8, 1 << 31, math.MaxUint32 - 19, math.MaxUint32 - 15} {
		for n := range uint32(4) {
			n++
			g := text(base, strings.Repeat("word", int(n)))
			for d := range uint32(40) {
				entry := base + d - 12
				x := of(entry, g)
				if k := int64(entry) - int64(base); k >= 0 && k < 4*int64(n) && k%4 == 0 {
					if i, e := Of(x); e != api.OK || i.Entry != entry {
						t.Errorf("base %#x, entry %#x: %+v, %v", base, entry, i, e)
					}
				} else {
					refuses(t, "an odd entry", x, api.ErrImageEntry)
				}
			}
			for k := range 32 {
				if d := uint32(1) << k; d%4 != 0 || d >= 4*n {
					refuses(t, "a far entry", of(base+d, g), api.ErrImageEntry)
				}
			}
		}
	}
	// An entry in another segment, and in one that is run no more.
	refuses(t, "an entry beside the text", of(0x2000, pair().Segs...), api.ErrImageEntry)
}

func TestOfWrongPrograms(t *testing.T) {
	for _, c := range wrong() {
		refuses(t, c.name, c.x, c.e)
	}
}

// fault is a program that elf.Check refuses.
type fault struct {
	name string
	x    api.Elf
	e    api.Errno
}

func wrong() []fault {
	g := text(0x1000, "abcd")
	with := func(change func(g *api.Seg)) api.Elf {
		h := api.Seg{Addr: 0x2000, Data: "d", Size: 2, Flags: 6}
		change(&h)
		return of(0x1000, g, h)
	}
	return []fault{
		{"too many segments", of(0x1000, append(full(), api.Seg{Addr: 1 << 20, Size: 1})...), api.ErrBig},
		{"no size", with(func(h *api.Seg) { h.Data, h.Size = "", 0 }), api.ErrElfForm},
		{"a size below 0", with(func(h *api.Seg) { h.Size = math.MinInt }), api.ErrElfForm},
		{"too great a size", with(func(h *api.Seg) { h.Size = api.MaxSize + 1 }), api.ErrElfForm},
		{"more data than size", with(func(h *api.Seg) { h.Size = 1; h.Data = "ab" }), api.ErrElfForm},
		{"flags below 0", with(func(h *api.Seg) { h.Flags = -1 }), api.ErrElfForm},
		{"flags above 7", with(func(h *api.Seg) { h.Flags = 8 }), api.ErrElfForm},
		{"beyond the last address", with(func(h *api.Seg) { h.Addr = math.MaxUint32 }), api.ErrElfForm},
		{"two that meet", with(func(h *api.Seg) { h.Addr = 0x1003 }), api.ErrElfMeet},
		{"two at one place", of(0x1000, g, g), api.ErrElfMeet},
		{"a text beyond the last address", of(math.MaxUint32-3, text(math.MaxUint32-3, "abcdefgh")), api.ErrElfForm},
	}
}

// R2

func TestOfOrder(t *testing.T) {
	many := append(full(), api.Seg{Addr: 1 << 20, Size: 0}, text(1<<20, "abcd"))
	refuses(t, "many, odd, meeting, two texts, no entry", of(1, many...), api.ErrBig)
	refuses(t, "odd, meeting, two texts", of(1, text(0, "abcd"), text(0, "abcd"), api.Seg{}), api.ErrElfForm)
	refuses(t, "meeting, two texts", of(1, text(0, "abcd"), text(0, "abcd")), api.ErrElfMeet)
	refuses(t, "meeting, no text", of(1, api.Seg{Size: 1}, api.Seg{Size: 1}), api.ErrElfMeet)
	refuses(t, "an odd one, no text", of(1, api.Seg{Size: 1, Flags: 8}), api.ErrElfForm)
	refuses(t, "an odd one, no entry", of(1, text(0, "abcd"), api.Seg{Addr: 8}), api.ErrElfForm)
	refuses(t, "no text, no entry", of(1, api.Seg{Size: 4, Data: "abcd"}), api.ErrImageText)
	refuses(t, "two texts, no entry", of(1, text(0, "abcd"), text(4, "abcd")), api.ErrImageText)
	refuses(t, "a text that is written, no entry", of(1, api.Seg{Size: 4, Data: "abcd", Flags: 3}), api.ErrImageText)
	refuses(t, "an odd address, no entry", of(99, text(2, "abcd")), api.ErrImageText)
	refuses(t, "an odd count, no entry", of(99, text(0, "abcde")), api.ErrImageText)
	refuses(t, "a size of more, an entry there", of(4, api.Seg{Size: 8, Data: "abcd", Flags: 5}), api.ErrImageText)
	refuses(t, "no data, an entry there", of(0, api.Seg{Size: 8, Flags: 5}), api.ErrImageText)
}

// P7.2

func TestWithOrdinary(t *testing.T) {
	for _, c := range ordinary() {
		words := make([]uint32, len(c.want.Words))
		for k := range words {
			words[k] = 0x81a2c3e4 + 0x01010101*uint32(k)
		}
		y, e := With(c.x, words)
		want, _ := modelWith(c.x, words)
		if e != api.OK || !same(y, want) {
			t.Errorf("%s: %+v, %v; not %+v", c.name, y, e, want)
		}
	}
	y, e := With(pair(), []uint32{0x01020304, 0xfffefdfc})
	want := pair()
	want.Segs[0].Data = "\x04\x03\x02\x01\xfc\xfd\xfe\xff"
	if e != api.OK || !same(y, want) {
		t.Errorf("%+v, %v; not %+v", y, e, want)
	}
}

func TestWithEachBit(t *testing.T) {
	for k := range 64 {
		words := []uint32{0, 0}
		words[k/32] = 1 << (k % 32)
		want := make([]byte, 8)
		want[k/8] = 1 << (k % 8)
		if y, e := With(pair(), words); e != api.OK || y.Segs[0].Data != string(want) || y.Segs[0].Size != 8 {
			t.Errorf("bit %d: %+v, %v", k, y.Segs, e)
		}
	}
}

func TestWithOtherCounts(t *testing.T) {
	for _, c := range ordinary() {
		n := len(c.want.Words)
		for _, m := range []int{0, 1, n - 1, n + 1, 2 * n, 4 * n, 1 << 16} {
			y, e := With(c.x, make([]uint32, m))
			if m != n && (e != api.ErrArg || !same(y, api.Elf{})) || m == n && e != api.OK {
				t.Errorf("%s: %d words: %+v, %v", c.name, m, y, e)
			}
		}
		if y, e := With(c.x, nil); e != api.ErrArg || !same(y, api.Elf{}) {
			t.Errorf("%s: no words: %+v, %v", c.name, y, e)
		}
		if y, e := With(c.x, []uint32{}); e != api.ErrArg || !same(y, api.Elf{}) {
			t.Errorf("%s: no words: %+v, %v", c.name, y, e)
		}
	}
}

func TestLoadOrdinary(t *testing.T) {
	l := []api.Elf{{}, of(1), of(3, full()...), pair(),
		// What has no text, and no entry, can be loaded all the same.
		of(99, api.Seg{Addr: math.MaxUint32, Data: "z", Size: 1}, api.Seg{Data: "ab", Size: 1 << 24, Flags: 7}, api.Seg{Addr: 0x2000001, Data: "\x00\x00c\x00", Size: 5, Flags: 3}),
		of(0, api.Seg{Addr: 5, Size: 7, Flags: 5}),
	}
	for _, c := range ordinary() {
		l = append(l, c.x)
	}
	for k, x := range l {
		m, e := Load(x)
		if e != api.OK || m == nil {
			t.Fatalf("%d: %v, %v", k, m, e)
		}
		if got := m.Cells(); !slices.Equal(got, modelCells(x)) {
			t.Errorf("%d: cells %v; not %v", k, got, modelCells(x))
		}
		for _, g := range x.Segs {
			n := min(g.Size, 64)
			if got := m.Bytes(g.Addr, n); got != g.Data+strings.Repeat("\x00", n-len(g.Data)) {
				t.Errorf("%d: %q at %#x", k, got, g.Addr)
			}
		}
	}
}

func TestLoadLarge(t *testing.T) {
	b := make([]byte, 1<<20)
	rand.New(rand.NewSource(7)).Read(b)
	m, e := Load(of(0, api.Seg{Addr: 1<<32 - 1<<20, Data: string(b), Size: 1 << 20}))
	if e != api.OK || m.Bytes(1<<32-1<<20, 1<<20) != string(b) || m.Bytes(0, 64) != strings.Repeat("\x00", 64) {
		t.Error("a large segment is loaded otherwise", e)
	}
}

func TestLoadWrongPrograms(t *testing.T) {
	for _, c := range wrong() {
		if m, e := Load(c.x); m != nil || e != c.e {
			t.Errorf("%s: %v, %v; not %v", c.name, m, e, c.e)
		}
	}
	if m, e := Load(of(0, append(full(), api.Seg{}, api.Seg{})...)); m != nil || e != api.ErrBig {
		t.Errorf("many and odd: %v, %v", m, e)
	}
	if m, e := Load(of(0, text(0, "abcd"), text(0, "abcd"), api.Seg{})); m != nil || e != api.ErrElfForm {
		t.Errorf("odd and meeting: %v, %v", m, e)
	}
}

func TestLoadIsNewEachTime(t *testing.T) {
	x := pair()
	m, _ := Load(x)
	n, _ := Load(x)
	before := n.Cells()
	for _, addr := range []uint32{0, 0x1000, 0x1004, 0x2002} {
		if e := m.Store(addr, 4, 0x55667788); e != api.OK {
			t.Fatal(e)
		}
	}
	if !slices.Equal(n.Cells(), before) || !same(x, pair()) {
		t.Error("a store is seen in another memory")
	}
	if o, _ := Load(x); !slices.Equal(o.Cells(), before) {
		t.Error("a store is seen in a later memory")
	}
}

// tellsAt fails unless At tells the word number k, or none if k is below 0.
func tellsAt(t *testing.T, i api.Image, addr uint32, k int) {
	t.Helper()
	w, is := At(i, addr)
	if k < 0 && (w != 0 || is) || k >= 0 && (w != i.Words[k] || !is) {
		t.Errorf("At(%#x) of %d words from %#x on: %#x, %v; word number %d", addr, len(i.Words), i.Base, w, is, k)
	}
}

func TestAtIsTheWordsAlone(t *testing.T) {
	for _, base := range []uint32{0, 4, 0x1000, 1<<31 - 8, 1 << 31, 1<<32 - 64} {
		for n := range 17 {
			i := api.Image{Base: base, Entry: base, Words: make([]uint32, n), Seg: 3}
			for k := range n {
				i.Words[k] = 0xf0f0f001 + 0x10000*uint32(k)
			}
			for d := int64(-70); d < 140; d++ {
				at := int64(base) + d
				k := -1
				if d >= 0 && d < 4*int64(n) && d%4 == 0 {
					k = int(d / 4)
				}
				tellsAt(t, i, uint32(at), k)
			}
			for b := range 32 {
				if d := uint32(1) << b; d >= 4*uint32(n) {
					tellsAt(t, i, base+d, -1)
					tellsAt(t, i, base-d, -1)
				}
			}
		}
	}
}

func TestAtOfNoughts(t *testing.T) {
	i := api.Image{Base: 8, Entry: 8, Words: []uint32{0, 7, 0}}
	for addr, want := range map[uint32]bool{4: false, 8: true, 10: false, 12: true, 16: true, 20: false} {
		if w, is := At(i, addr); is != want || (w != 0) != (addr == 12) {
			t.Errorf("At(%d): %d, %v", addr, w, is)
		}
	}
	for _, addr := range []uint32{0, 4, 1 << 31, math.MaxUint32, math.MaxUint32 - 3} {
		tellsAt(t, api.Image{}, addr, -1)
		tellsAt(t, api.Image{Words: []uint32{}}, addr, -1)
		tellsAt(t, api.Image{Base: addr}, addr, -1)
	}
}

// At does not ask where a program begins, nor which segment its text is.
func TestAtOfAnyEntry(t *testing.T) {
	for _, i := range []api.Image{{Base: 4, Entry: 99, Words: []uint32{5}, Seg: -1}, {Base: 4, Words: []uint32{5}, Seg: math.MaxInt}} {
		tellsAt(t, i, 4, 0)
		tellsAt(t, i, 0, -1)
		tellsAt(t, i, 8, -1)
	}
}

// R1

func TestAtEndsOfAnyImage(t *testing.T) {
	for _, i := range []api.Image{
		{Base: 1, Words: []uint32{1, 2}}, {Base: 2, Words: []uint32{1}}, {Base: 7, Words: make([]uint32, 99)},
		{Base: math.MaxUint32 - 3, Words: []uint32{1, 2, 3}}, {Base: math.MaxUint32, Words: []uint32{1, 2}},
	} {
		for d := range uint32(800) {
			for _, addr := range []uint32{i.Base + d - 400, d} {
				if w, is := At(i, addr); !is && w != 0 || is && (addr%4 != 0 || !slices.Contains(i.Words, w)) {
					t.Errorf("At(%#x) of %+v: %d, %v", addr, i, w, is)
				}
			}
		}
	}
}

// P7.3

func TestWithOfItsOwnWords(t *testing.T) {
	for _, c := range ordinary() {
		i, _ := Of(c.x)
		if y, e := With(c.x, i.Words); e != api.OK || !same(y, c.x) {
			t.Errorf("%s: %+v, %v", c.name, y, e)
		}
	}
}

// outside are the bytes of a memory that are not 0 and stand outside a text.
func outside(m *mem.Mem, i api.Image) []api.Cell {
	return slices.DeleteFunc(m.Cells(), func(c api.Cell) bool {
		return c.Addr >= i.Base && uint64(c.Addr) < uint64(i.Base)+4*uint64(len(i.Words))
	})
}

func TestWithAndOf(t *testing.T) {
	r := rand.New(rand.NewSource(73))
	for _, c := range ordinary() {
		for range 20 {
			words := make([]uint32, len(c.want.Words))
			for k := range words {
				words[k] = r.Uint32()
			}
			y, e := With(c.x, words)
			i, e2 := Of(y)
			want := c.want
			want.Words = words
			if e != api.OK || e2 != api.OK || !alike(i, want) {
				t.Errorf("%s: %+v, %v, %v; not %+v", c.name, i, e, e2, want)
			}
			m, _ := Load(c.x)
			n, e := Load(y)
			if e != api.OK || !slices.Equal(outside(m, i), outside(n, i)) {
				t.Errorf("%s: another byte outside the text", c.name)
			}
			for k, w := range words {
				if v, _ := n.Load(i.Base+4*uint32(k), 4); v != w {
					t.Errorf("%s: word %d is %#x in memory, not %#x", c.name, k, v, w)
				}
			}
		}
	}
}

// What is told is a program that may be, and can be written and read again.
func TestWithThroughAFile(t *testing.T) {
	y, e := With(pair(), []uint32{1, 2})
	s, e2 := elf.Write(y)
	z, e3 := elf.Parse(s)
	i, e4 := Of(z)
	if e != api.OK || e2 != api.OK || e3 != api.OK || e4 != api.OK || !slices.Equal(i.Words, []uint32{1, 2}) {
		t.Error(i, e, e2, e3, e4)
	}
}

func TestAsModel(t *testing.T) {
	r := rand.New(rand.NewSource(22))
	seen := map[api.Errno]int{}
	for range 30000 {
		x := chance(r)
		i, e := Of(x)
		want, no := modelOf(x)
		seen[no]++
		if e != no || !alike(i, want) {
			t.Fatalf("Of(%+v) = %+v, %v; not %+v, %v", x, i, e, want, no)
		}
		words := make([]uint32, max(0, len(want.Words)+[]int{0, 0, 0, -1, 1}[r.Intn(5)]))
		for k := range words {
			words[k] = r.Uint32()
		}
		y, e := With(x, words)
		wantY, no := modelWith(x, words)
		seen[no]++
		if e != no || !same(y, wantY) {
			t.Fatalf("With(%+v, %x) = %+v, %v; not %+v, %v", x, words, y, e, wantY, no)
		}
		m, e := Load(x)
		if e != elf.Check(x) || (e == api.OK) != (m != nil) || e == api.OK && !slices.Equal(m.Cells(), modelCells(x)) {
			t.Fatalf("Load(%+v): %v", x, e)
		}
	}
	for _, e := range []api.Errno{api.OK, api.ErrArg, api.ErrElfForm, api.ErrElfMeet, api.ErrImageText, api.ErrImageEntry} {
		if seen[e] < 100 {
			t.Errorf("the error %v was met %d times only", e, seen[e])
		}
	}
}

// R4

// roomy is pair with room behind its list, which is filled by a mark.
func roomy() (api.Elf, []api.Seg) {
	x := pair()
	all := append(x.Segs, api.Seg{Addr: 0x77, Data: "mark", Size: 7, Flags: 7}, api.Seg{Addr: 0x78})
	x.Segs = all[:2]
	return x, all
}

func TestNothingHandedInIsChanged(t *testing.T) {
	x, all := roomy()
	before := slices.Clone(all)
	room := []uint32{5, 6, 7, 8}
	words := room[:2]
	i, _ := Of(x)
	y, e := With(x, words)
	if e != api.OK {
		t.Fatal(e)
	}
	_, _ = Load(x)
	_, _ = With(x, room)
	At(i, 0x1004)
	_, _, _ = append(i.Words, 1, 2, 3), append(y.Segs, api.Seg{}, api.Seg{}), words
	if !slices.Equal(all, before) || !slices.Equal(room, []uint32{5, 6, 7, 8}) || len(x.Segs) != 2 || x.Entry != 0x1004 || x.Flags != 0x87654321 {
		t.Error("a list that was handed in is another one", all, room)
	}
	if !slices.Equal(i.Words, []uint32{0x13, 0xff020173}) {
		t.Error("At changed its image", i)
	}
}

func TestAnswersAreNew(t *testing.T) {
	x := pair()
	for k := range x.Segs {
		x.Segs[k].Data = strings.Clone(x.Segs[k].Data)
	}
	i, _ := Of(x)
	j, _ := Of(x)
	i.Words[0], i.Words[1] = 0xaaaaaaaa, 0xbbbbbbbb
	if j.Words[0] != 0x13 || !same(x, pair()) {
		t.Error("two answers of Of share their words", j)
	}
	words := []uint32{3, 4}
	y, _ := With(x, words)
	z, _ := With(x, words)
	words[0] = 99
	if i, _ := Of(y); !slices.Equal(i.Words, []uint32{3, 4}) {
		t.Error("With keeps its words", i)
	}
	y.Segs[0].Addr, y.Segs[1].Data = 77, "other"
	if !same(x, pair()) || z.Segs[0].Addr != 0x1000 || z.Segs[1].Data != "xy\x00z" {
		t.Error("With shares its segments", x, z)
	}
	if unsafe.StringData(z.Segs[1].Data) == unsafe.StringData(x.Segs[1].Data) {
		t.Error("With shares the bytes of a segment")
	}
}

func TestSpareRoomIsNew(t *testing.T) {
	x, all := roomy()
	i, _ := Of(x)
	for _, w := range i.Words[len(i.Words):cap(i.Words)] {
		if w != 0 {
			t.Error("words stand in the room behind an answer", w)
		}
	}
	y, _ := With(x, []uint32{1, 2})
	for _, g := range y.Segs[len(y.Segs):cap(y.Segs)] {
		if g != (api.Seg{}) {
			t.Error("a segment stands in the room behind an answer", g)
		}
	}
	_ = append(y.Segs, api.Seg{Data: "behind"})
	if all[2].Data != "mark" {
		t.Error("the room behind an answer is an argument's")
	}
}

// R5

func TestAnswersHangOnArgumentsAlone(t *testing.T) {
	for range 3 {
		for _, c := range ordinary() {
			_, _ = Of(of(1, text(0, "abcd")))
			_, _ = With(c.x, nil)
			i, e := Of(c.x)
			m, e2 := Load(c.x)
			if e != api.OK || e2 != api.OK || !alike(i, c.want) || !slices.Equal(m.Cells(), modelCells(c.x)) {
				t.Errorf("%s: %+v, %v, %v", c.name, i, e, e2)
			}
		}
	}
}
