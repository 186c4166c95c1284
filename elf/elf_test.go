package elf

import (
	stdelf "debug/elf"
	"encoding/binary"
	"io"
	"math"
	"math/rand"
	"slices"
	"strings"
	"testing"
	"unsafe"

	"whetstone/api"
)

// same tells whether two programs are one.
func same(x, y api.Elf) bool {
	return x.Entry == y.Entry && x.Flags == y.Flags && slices.Equal(x.Segs, y.Segs)
}

// of is a program with the segments.
func of(l ...api.Seg) api.Elf {
	return api.Elf{Entry: 0x1004, Flags: 0x87654321, Segs: l}
}

// set is s with v written over what stands at a place.
func set(s string, at int, v string) string {
	return s[:at] + v + s[at+len(v):]
}

// half and word are a number's bytes in a file.
func half(v uint16) string { return string(binary.LittleEndian.AppendUint16(nil, v)) }
func word(v uint32) string { return string(binary.LittleEndian.AppendUint32(nil, v)) }

// checks fails unless Check and Write answer e.
func checks(t *testing.T, x api.Elf, e api.Errno) {
	t.Helper()
	if got := Check(x); got != e {
		t.Errorf("Check of %d segments, %+.80v: %v, not %v", len(x.Segs), x, got, e)
	}
	s, got := Write(x)
	if got != e || (e != api.OK) != (s == "") {
		t.Errorf("Write of %d segments, %+.80v: %d bytes, %v, not %v", len(x.Segs), x, len(s), got, e)
	}
}

// refuses fails unless s is no file, by the error e.
func refuses(t *testing.T, s string, e api.Errno) {
	t.Helper()
	x, got := Parse(s)
	if got != e {
		t.Errorf("Parse(%.200q) is %v, not %v", s, got, e)
	}
	if x.Entry != 0 || x.Flags != 0 || len(x.Segs) != 0 {
		t.Errorf("Parse(%.200q) is %+v beside an error", s, x)
	}
}

// takes fails unless s is the file of x.
func takes(t *testing.T, s string, x api.Elf) {
	t.Helper()
	if y, e := Parse(s); e != api.OK || !same(y, x) {
		t.Errorf("Parse(%.200q) = %+v, %v; not %+v", s, y, e, x)
	}
}

// asModel fails unless Parse answers what the model does, which it answers.
func asModel(t *testing.T, s string) api.Errno {
	t.Helper()
	want, no := modelParse(s)
	if x, e := Parse(s); e != no || !same(x, want) {
		t.Fatalf("Parse(%.300q) = %+v, %v; not %+v, %v", s, x, e, want, no)
	}
	return no
}

// ordinary are programs that may be.
func ordinary() []api.Elf {
	full := make([]api.Seg, 16)
	for i := range full {
		full[i] = api.Seg{Addr: uint32(15-i) * 8, Data: strings.Repeat("x", i%9), Size: 8, Flags: i % 8}
	}
	return []api.Elf{
		{},
		{Entry: math.MaxUint32, Flags: math.MaxUint32},
		of(api.Seg{Addr: 0x1000, Data: "abcd", Size: 8, Flags: 5}),
		of(api.Seg{Addr: 0x1000, Data: "\x00\xff\x80\n", Size: 4, Flags: 7}),
		of(api.Seg{Addr: 0x1000, Size: 8}),
		of(api.Seg{Addr: 0x20304050, Size: 16, Flags: 6}, api.Seg{Data: "one", Size: 3, Flags: 1}, api.Seg{Addr: 3, Data: "two", Size: 4, Flags: 2}),
		of(api.Seg{Addr: math.MaxUint32, Data: "z", Size: 1, Flags: 4}, api.Seg{Data: "a", Size: 1}),
		of(full...),
	}
}

// P6.1

func TestCheckOrdinary(t *testing.T) {
	for _, x := range ordinary() {
		checks(t, x, api.OK)
	}
}

func TestCheckSegments(t *testing.T) {
	l := make([]api.Seg, 17)
	for i := range l {
		l[i] = api.Seg{Addr: uint32(i), Size: 1}
	}
	checks(t, of(l[:16]...), api.OK)
	checks(t, of(l...), api.ErrBig)
	checks(t, of(make([]api.Seg, 1<<17)...), api.ErrBig)
}

func TestCheckSize(t *testing.T) {
	for n, e := range map[int]api.Errno{
		1: api.OK, 2: api.OK, 1<<24 - 1: api.OK, 1 << 24: api.OK,
		0: api.ErrElfForm, -1: api.ErrElfForm, 1<<24 + 1: api.ErrElfForm, 1 << 32: api.ErrElfForm, 1<<32 + 1: api.ErrElfForm,
		math.MinInt: api.ErrElfForm, math.MinInt + 1: api.ErrElfForm, math.MaxInt: api.ErrElfForm,
	} {
		for _, a := range []uint32{0, 1, 1 << 31, 0xff000000 - 1, 0xff000000} {
			checks(t, of(api.Seg{Addr: a, Size: n}), e)
		}
	}
}

func TestCheckData(t *testing.T) {
	for _, n := range []int{1, 2, 3, 255, 256, 1 << 24} {
		s := strings.Repeat("d", n+1)
		checks(t, of(api.Seg{Size: n}), api.OK)
		checks(t, of(api.Seg{Size: n, Data: s[:n-1]}), api.OK)
		checks(t, of(api.Seg{Size: n, Data: s[:n]}), api.OK)
		checks(t, of(api.Seg{Size: n, Data: s}), api.ErrElfForm)
	}
}

func TestCheckFlags(t *testing.T) {
	for f := range 8 {
		checks(t, of(api.Seg{Size: 1, Flags: f}), api.OK)
	}
	for _, f := range []int{-1, -8, 8, 9, 16, 1 << 32, 1<<32 + 5, math.MinInt, math.MaxInt} {
		checks(t, of(api.Seg{Size: 1, Flags: f}), api.ErrElfForm)
	}
}

func TestCheckEndOfAddresses(t *testing.T) {
	for _, n := range []int{1, 2, 4096, 1 << 24} {
		a := uint32(1<<32 - n)
		checks(t, of(api.Seg{Addr: a - 1, Size: n}), api.OK)
		checks(t, of(api.Seg{Addr: a, Size: n}), api.OK)
		if a != math.MaxUint32 {
			checks(t, of(api.Seg{Addr: a + 1, Size: n}), api.ErrElfForm)
		}
		if n < 1<<24 {
			checks(t, of(api.Seg{Addr: a, Size: n + 1}), api.ErrElfForm)
		}
	}
	checks(t, of(api.Seg{Addr: math.MaxUint32, Size: 1 << 24}), api.ErrElfForm)
}

func TestCheckMeeting(t *testing.T) {
	for _, x := range []struct {
		a    uint32
		n    int
		b    uint32
		m    int
		want api.Errno
	}{
		{0, 4, 4, 4, api.OK}, {0, 4, 3, 4, api.ErrElfMeet}, {0, 4, 5, 4, api.OK},
		{8, 4, 8, 4, api.ErrElfMeet}, {8, 4, 8, 1, api.ErrElfMeet}, {8, 4, 11, 1, api.ErrElfMeet}, {8, 4, 12, 1, api.OK}, {8, 4, 7, 1, api.OK},
		{8, 8, 10, 2, api.ErrElfMeet}, {8, 1, 8, 1, api.ErrElfMeet}, {8, 1, 9, 1, api.OK},
		{math.MaxUint32, 1, 0, 1, api.OK}, {math.MaxUint32, 1, math.MaxUint32, 1, api.ErrElfMeet},
		{math.MaxUint32 - 3, 4, math.MaxUint32, 1, api.ErrElfMeet}, {math.MaxUint32 - 3, 3, math.MaxUint32, 1, api.OK},
		{0x7fffff00, 0x100, 0x80000000, 0x100, api.OK}, {0x7fffff00, 0x101, 0x80000000, 0x100, api.ErrElfMeet},
		{0xff000000, 1 << 24, 0xfe000000, 1 << 24, api.OK}, {0xff000000, 1 << 24, 0xfe000001, 1 << 24, api.ErrElfMeet},
	} {
		g, h := api.Seg{Addr: x.a, Size: x.n}, api.Seg{Addr: x.b, Size: x.m}
		far := api.Seg{Addr: 0x40000000, Size: 1}
		near := api.Seg{Addr: 0x40000001, Size: 1}
		for _, l := range [][]api.Seg{{g, h}, {h, g}, {g, far, h}, {far, h, near, g}, {h, near, g, far}, {far, near, g, h}} {
			checks(t, of(l...), x.want)
		}
	}
}

// Which two of 16 meet makes no difference.
func TestCheckMeetingOfEachTwo(t *testing.T) {
	for i := range 16 {
		for j := range i {
			l := make([]api.Seg, 16)
			for k := range l {
				l[k] = api.Seg{Addr: uint32(k) * 16, Size: 16}
			}
			checks(t, of(l...), api.OK)
			l[i].Addr = l[j].Addr + 15
			l[j].Data = "no data counts"
			if j+1 == i {
				l[i].Size = 1
			}
			checks(t, of(l...), api.ErrElfMeet)
		}
	}
}

// R2: too many ahead of a segment that may not be, ahead of two that meet.
func TestCheckOrder(t *testing.T) {
	good, bad := api.Seg{Addr: 8, Size: 8}, api.Seg{Addr: 8, Size: 0}
	checks(t, of(good, good), api.ErrElfMeet)
	checks(t, of(good, good, bad), api.ErrElfForm)
	checks(t, of(good, bad, good), api.ErrElfForm)
	checks(t, of(bad, good, good), api.ErrElfForm)
	checks(t, of(slices.Repeat([]api.Seg{good}, 16)...), api.ErrElfMeet)
	checks(t, of(slices.Repeat([]api.Seg{good}, 17)...), api.ErrBig)
	checks(t, of(slices.Repeat([]api.Seg{bad}, 16)...), api.ErrElfForm)
	checks(t, of(slices.Repeat([]api.Seg{bad}, 17)...), api.ErrBig)
}

func TestCheckAsModel(t *testing.T) {
	r := rand.New(rand.NewSource(61))
	got := map[api.Errno]int{}
	for range 100000 {
		x := guess(r)
		want := modelCheck(x)
		got[want]++
		if e := Check(x); e != want {
			t.Fatalf("Check(%+v) = %v, not %v", x, e, want)
		}
	}
	for _, e := range []api.Errno{api.OK, api.ErrElfForm, api.ErrElfMeet, api.ErrBig} {
		if got[e] < 1000 {
			t.Errorf("%v is asked %d times only", e, got[e])
		}
	}
}

// guess is a program that may be or not, all of its numbers near an edge.
func guess(r *rand.Rand) api.Elf {
	x := api.Elf{Entry: r.Uint32(), Flags: r.Uint32()}
	n := r.Intn(5)
	if r.Intn(20) == 0 {
		n = 15 + r.Intn(4)
	}
	for range n {
		g := api.Seg{Addr: uint32(r.Intn(200)), Size: 1 + r.Intn(12), Flags: r.Intn(8)}
		g.Data = strings.Repeat(string(rune('a'+r.Intn(26))), r.Intn(g.Size+1))
		switch r.Intn(40) {
		case 0:
			g.Size = r.Intn(3) - 2
		case 1:
			g.Size = 1<<24 - 1 + r.Intn(3)
		case 2:
			g.Data += strings.Repeat("m", g.Size-len(g.Data)+r.Intn(2))
		case 3:
			g.Flags = []int{-1, 8, math.MaxInt, math.MinInt}[r.Intn(4)]
		case 4:
			g.Addr = uint32(math.MaxUint32 - r.Intn(14))
		}
		x.Segs = append(x.Segs, g)
	}
	return x
}

// P6.2

// file1 is the file of the chapter's example.
func file1(t *testing.T) string {
	t.Helper()
	s, e := Write(api.Elf{Entry: 0x1000, Segs: []api.Seg{{Addr: 0x1000, Data: "abcd", Size: 8, Flags: 5}}})
	if e != api.OK || len(s) != 52+32+4 {
		t.Fatalf("%q, %v", s, e)
	}
	return s
}

func TestParseExample(t *testing.T) {
	s := "\x7fELF\x01\x01\x01" + "123456789" + "\x02\x00\xf3\x00\x01\x00\x00\x00" +
		"\x04\x10\x00\x80" + "\x37\x00\x00\x00" + "idle" + "\x05\x06\x07\x88" + "\x34\x00\x20\x00\x02\x00" + "sixsix" + "gap" +
		"\x01\x00\x00\x00" + "\x77\x00\x00\x00" + "\x00\x10\x00\x80" + "idle" + "\x04\x00\x00\x00" + "\x08\x00\x00\x00" + "\x05\x00\x00\x00" + "idle" +
		"\x01\x00\x00\x00" + "\x7a\x00\x00\x00" + "\x00\x20\x00\x00" + "idle" + "\x02\x00\x00\x00" + "\x00\x00\x00\x01" + "\x00\x00\x00\x00" + "idle" +
		"abcdefg"
	takes(t, s, api.Elf{Entry: 0x80001004, Flags: 0x88070605, Segs: []api.Seg{
		{Addr: 0x80001000, Data: "abcd", Size: 8, Flags: 5}, {Addr: 0x2000, Data: "de", Size: 1 << 24}}})
}

func TestParseShortHead(t *testing.T) {
	for _, x := range ordinary() {
		s, _ := Write(x)
		for n := range 52 {
			refuses(t, s[:n], api.ErrElfShort)
			refuses(t, strings.Repeat("\xff", n), api.ErrElfShort)
		}
	}
	refuses(t, strings.Repeat("\x00", 52), api.ErrElfClass)
	refuses(t, strings.Repeat("\xff", 52), api.ErrElfClass)
}

// A file of Write's has no byte to spare.
func TestParseCutShort(t *testing.T) {
	for _, x := range ordinary() {
		s, _ := Write(x)
		for n := range len(s) {
			refuses(t, s[:n], api.ErrElfShort)
		}
		takes(t, s, x)
		takes(t, s+"\x00", x)
		takes(t, s+s, x)
	}
}

// Each bit of the head that counts, and each that does not.
func TestParseHeadBits(t *testing.T) {
	s, _ := Write(api.Elf{})
	for i := range 52 {
		for bit := range 8 {
			c := s[i] ^ 1<<bit
			u := set(s, i, string([]byte{c}))
			switch {
			case i < 7, i >= 16 && i < 24, i >= 40 && i < 44:
				refuses(t, u, api.ErrElfClass)
			case i >= 24 && i < 28:
				takes(t, u, api.Elf{Entry: uint32(c) << (8 * (i - 24))})
			case i >= 36 && i < 40:
				takes(t, u, api.Elf{Flags: uint32(c) << (8 * (i - 36))})
			case i == 28 || i == 29 || i == 30 || i == 31:
				// Where no rows stand: at or ahead of the file's end, or not.
				asModel(t, u)
			case i == 44 && c <= 16:
				refuses(t, u, api.ErrElfShort)
			case i == 44 || i == 45:
				refuses(t, u, api.ErrBig)
			default:
				takes(t, u, api.Elf{})
			}
		}
	}
}

func TestParseHeadNumbers(t *testing.T) {
	s := file1(t)
	for at, right := range map[int]uint16{16: 2, 18: 0xf3, 20: 1, 22: 0, 40: 52, 42: 32} {
		for v := range 1 << 16 {
			if uint16(v) != right {
				refuses(t, set(s, at, half(uint16(v))), api.ErrElfClass)
			}
		}
	}
	for i, right := range []byte("\x7fELF\x01\x01\x01") {
		for v := range 256 {
			if byte(v) != right {
				refuses(t, set(s, i, string([]byte{byte(v)})), api.ErrElfClass)
			}
		}
	}
}

func TestParseRows(t *testing.T) {
	row := file1(t)[52:84]
	head := file1(t)[:52]
	table := ""
	for i := range 20 {
		table += set(set(row, 8, word(uint32(i)*8)), 4, word(0))
	}
	for n := range 1 << 16 {
		s := set(head, 44, half(uint16(n)))
		if n > 16 {
			refuses(t, s, api.ErrBig)
			refuses(t, s+table, api.ErrBig)
			continue
		}
		x, e := Parse(s + table[:32*n])
		if e != api.OK || len(x.Segs) != n {
			t.Fatal(n, x, e)
		}
		for i, g := range x.Segs {
			if g != (api.Seg{Addr: uint32(i) * 8, Data: "\x7fELF", Size: 8, Flags: 5}) {
				t.Error(n, i, g)
			}
		}
		if n > 0 {
			refuses(t, s+table[:32*n-1], api.ErrElfShort)
			refuses(t, s, api.ErrElfShort)
		}
	}
}

// The table stands where the head says, be it in the head, in the data or
// across the file's end.
func TestParsePlaceOfTable(t *testing.T) {
	x := of(api.Seg{Addr: 0x1000, Data: "abcd", Size: 8, Flags: 5}, api.Seg{Addr: 0x2000, Size: 8, Flags: 5})
	s, _ := Write(x)
	table := s[52:116]
	for gap := range 100 {
		u := set(s, 28, word(uint32(len(s)+gap))) + strings.Repeat("g", gap) + table
		takes(t, u, x)
		refuses(t, u[:len(u)-1], api.ErrElfShort)
		refuses(t, set(u, 28, word(uint32(len(s)+gap+1))), api.ErrElfShort)
	}
	for _, at := range []uint32{uint32(len(s)) - 63, uint32(len(s)) - 1, uint32(len(s)), 1 << 16, 1<<31 - 64, 1 << 31, 1<<32 - 64, 1<<32 - 63, 1<<32 - 32, 1<<32 - 1} {
		refuses(t, set(s, 28, word(at)), api.ErrElfShort)
	}
	for at := range len(s) + 3 {
		asModel(t, set(s, 28, word(uint32(at))))
	}
}

// A table within the head: its first row begins with the head's own numbers.
func TestParseTableInHead(t *testing.T) {
	head := "\x7fELF\x01\x01\x01" + strings.Repeat("\x00", 9) + "\x02\x00\xf3\x00\x01\x00\x00\x00"
	// From 20 on: 1, Entry as the place, the table's place as the address,
	// 4 that do not count, flags as how many bytes, the sizes as how many in
	// all, the rows and 2 more as flags.
	s := head + word(3) + word(20) + "idle" + word(2) + "\x34\x00\x20\x00" + "\x01\x00" + "\x00\x00" + "idle"
	takes(t, s, api.Elf{Entry: 3, Flags: 2, Segs: []api.Seg{{Addr: 20, Data: "F\x01", Size: 0x200034, Flags: 1}}})
}

func TestParseRowNumbers(t *testing.T) {
	s := file1(t)
	for _, c := range []struct {
		at   int
		v    uint32
		want api.Errno
	}{
		{0, 0, api.ErrElfForm}, {0, 2, api.ErrElfForm}, {0, 0x101, api.ErrElfForm}, {0, 1 << 24, api.ErrElfForm}, {0, 1<<31 | 1, api.ErrElfForm}, {0, math.MaxUint32, api.ErrElfForm},
		{4, 0, api.OK}, {4, 83, api.OK}, {4, 84, api.OK}, {4, 85, api.ErrElfShort}, {4, 88, api.ErrElfShort}, {4, 1 << 31, api.ErrElfShort}, {4, math.MaxUint32 - 3, api.ErrElfShort}, {4, math.MaxUint32, api.ErrElfShort},
		{8, 0, api.OK}, {8, math.MaxUint32 - 7, api.OK}, {8, math.MaxUint32 - 6, api.ErrElfForm}, {8, math.MaxUint32, api.ErrElfForm},
		{12, 0, api.OK}, {12, math.MaxUint32, api.OK},
		{16, 0, api.OK}, {16, 3, api.OK}, {16, 5, api.ErrElfShort}, {16, 8, api.ErrElfShort}, {16, 9, api.ErrElfForm}, {16, math.MaxUint32, api.ErrElfForm},
		{20, 4, api.OK}, {20, 3, api.ErrElfForm}, {20, 0, api.ErrElfForm}, {20, 1 << 24, api.OK}, {20, 1<<24 + 1, api.ErrElfForm}, {20, math.MaxUint32, api.ErrElfForm},
		{24, 0, api.OK}, {24, 7, api.OK}, {24, 8, api.ErrElfForm}, {24, 0x105, api.ErrElfForm}, {24, 1<<31 | 5, api.ErrElfForm}, {24, math.MaxUint32, api.ErrElfForm},
		{28, 0, api.OK}, {28, 5, api.OK}, {28, math.MaxUint32, api.OK},
	} {
		u := set(s, 52+c.at, word(c.v))
		if e := asModel(t, u); e != c.want {
			t.Errorf("%d at %d: %v, not %v", c.v, c.at, e, c.want)
		}
		if c.want != api.OK {
			refuses(t, u, c.want)
		}
	}
}

// Bytes may stand anywhere in the file, also in its head, and more than once.
func TestParsePlaceOfBytes(t *testing.T) {
	s := file1(t)
	for at := range len(s) + 2 {
		for n := range uint32(len(s) + 3) {
			u := set(s, 56, word(uint32(at))+word(0x1000)+"idle"+word(n)+word(100))
			if at+int(n) > len(s) {
				refuses(t, u, api.ErrElfShort)
				continue
			}
			takes(t, u, api.Elf{Entry: 0x1000, Segs: []api.Seg{{Addr: 0x1000, Data: u[at : at+int(n)], Size: 100, Flags: 5}}})
		}
	}
	// Place and count that come to 2^32 together, and to 2^32 and a bit.
	for _, n := range []uint32{1, 4, 1 << 24, 1 << 31} {
		for _, more := range []uint32{0, 1, 2, 60} {
			if more >= n {
				continue // the place itself would be a small one
			}
			refuses(t, set(s, 56, word(-n+more)+word(0)+"idle"+word(n)+word(n)), api.ErrElfShort)
		}
	}
}

func TestParseChecks(t *testing.T) {
	g := api.Seg{Addr: 0x1000, Data: "ab", Size: 8, Flags: 5}
	for _, c := range []struct {
		l    []api.Seg
		want api.Errno
	}{
		{[]api.Seg{{Addr: 8}}, api.ErrElfForm},
		{[]api.Seg{g, {Addr: 8}}, api.ErrElfForm},
		{[]api.Seg{{Size: 1<<24 + 1}}, api.ErrElfForm},
		{[]api.Seg{{Size: math.MaxUint32}}, api.ErrElfForm},
		{[]api.Seg{{Addr: math.MaxUint32, Size: 2}}, api.ErrElfForm},
		{[]api.Seg{{Addr: math.MaxUint32, Size: 1}}, api.OK},
		{[]api.Seg{g, g}, api.ErrElfMeet},
		{[]api.Seg{g, {Addr: 0x1007, Size: 1}}, api.ErrElfMeet},
		{[]api.Seg{g, {Addr: 0x1008, Size: 1}}, api.OK},
		{[]api.Seg{g, {Addr: 0xff9, Size: 8}}, api.ErrElfMeet},
		{[]api.Seg{g, {Addr: 0xff8, Size: 8}}, api.OK},
		{[]api.Seg{g, g, {Addr: 8}}, api.ErrElfForm},
		{slices.Repeat([]api.Seg{g}, 17), api.ErrBig},
	} {
		s := modelFile(of(c.l...))
		if c.want == api.OK {
			takes(t, s, of(c.l...))
		} else {
			refuses(t, s, c.want)
		}
	}
}

// R2: of two faults the one that the promise names first.
func TestParseOrder(t *testing.T) {
	g := api.Seg{Addr: 0x1000, Data: "ab", Size: 8, Flags: 5}
	s := modelFile(of(g, g))
	faults := []struct {
		at   int
		v    string
		want api.Errno
	}{
		{18, "\x3e", api.ErrElfClass},
		{44, "\x11", api.ErrBig},
		{28, word(math.MaxUint32), api.ErrElfShort},
		{52 + 24, word(8), api.ErrElfForm},         // row 0
		{52 + 4, word(1 << 20), api.ErrElfShort},   // row 0
		{84 + 0, word(2), api.ErrElfForm},          // row 1
		{84 + 4, word(1 << 20), api.ErrElfShort},   // row 1
		{52 + 20, word(1<<24 + 1), api.ErrElfForm}, // Check's first
		{0, "\x7f", api.ErrElfMeet},                // no fault but the meeting
	}
	for i, f := range faults {
		u := set(s, f.at, f.v)
		refuses(t, u, f.want)
		for _, h := range faults[i:] {
			v := set(u, h.at, h.v)
			refuses(t, v, f.want)
			refuses(t, v[:51], api.ErrElfShort)
			for _, k := range faults[i:] {
				refuses(t, set(v, k.at, k.v), f.want)
			}
		}
	}
	// The other faults of a row's form go ahead of its bytes, too.
	far := set(s, 56, word(math.MaxUint32))
	refuses(t, far, api.ErrElfShort)
	refuses(t, set(far, 52, word(3)), api.ErrElfForm)
	refuses(t, set(far, 52+16, word(9)), api.ErrElfForm)
	refuses(t, set(far, 52+20, word(0)), api.ErrElfForm)
	// A size that is too great is Check's to tell: behind all rows.
	refuses(t, set(far, 52+20, word(1<<24+1)), api.ErrElfShort)
	refuses(t, set(set(s, 52+16, word(0)+word(0)), 84+4, word(math.MaxUint32)), api.ErrElfShort)
}

// What does not count makes no difference.
func TestParseIdleBytes(t *testing.T) {
	for _, x := range ordinary() {
		s, _ := Write(x)
		for _, c := range []byte{0, 1, 0x7f, 0x80, 0xff} {
			b := []byte(s)
			for i := range b {
				switch {
				case i >= 7 && i < 16, i >= 32 && i < 36, i >= 46 && i < 52:
					b[i] = c
				case i >= 52 && i < 52+32*len(x.Segs):
					if k := (i - 52) % 32; k >= 12 && k < 16 || k >= 28 {
						b[i] = c
					}
				}
			}
			takes(t, string(b), x)
		}
	}
}

func TestParseAsModel(t *testing.T) {
	r := rand.New(rand.NewSource(62))
	got := map[api.Errno]int{}
	for range 200000 {
		b := []byte(modelFile(guess(r)))
		for range r.Intn(4) {
			spoil(r, b)
		}
		if r.Intn(8) == 0 {
			b = b[:r.Intn(len(b)+1)]
		}
		got[asModel(t, string(b))]++
	}
	for _, e := range []api.Errno{api.OK, api.ErrBig, api.ErrElfShort, api.ErrElfClass, api.ErrElfForm, api.ErrElfMeet} {
		if got[e] < 1000 {
			t.Errorf("%v is asked %d times only", e, got[e])
		}
	}
}

// spoil changes a byte or a number of a file.
func spoil(r *rand.Rand, b []byte) {
	if r.Intn(2) == 0 {
		b[r.Intn(len(b))] = byte(r.Intn(256))
		return
	}
	at := 24 + r.Intn((len(b)-24)/4)*4
	if at+4 > len(b) {
		return
	}
	edges := []uint32{0, 1, 2, 7, 8, 16, 52, uint32(len(b)), uint32(len(b)) - 1, uint32(len(b)) - 32, 1 << 24, 1<<24 + 1, 1 << 31, math.MaxUint32, math.MaxUint32 - 31}
	binary.LittleEndian.PutUint32(b[at:], edges[r.Intn(len(edges))])
}

func TestParseNoise(t *testing.T) {
	r := rand.New(rand.NewSource(63))
	for range 20000 {
		b := make([]byte, r.Intn(200))
		r.Read(b)
		asModel(t, string(b))
		copy(b, "\x7fELF\x01\x01\x01")
		if len(b) > 45 {
			copy(b[16:], "\x02\x00\xf3\x00\x01\x00\x00\x00")
			copy(b[40:], "\x34\x00\x20\x00\x01\x00")
		}
		asModel(t, string(b))
	}
}

// P6.3

func TestWriteExample(t *testing.T) {
	want := "\x7fELF\x01\x01\x01" + strings.Repeat("\x00", 9) +
		"\x02\x00" + "\xf3\x00" + "\x01\x00\x00\x00" +
		"\x04\x10\x00\x00" + "\x34\x00\x00\x00" + "\x00\x00\x00\x00" + "\x21\x43\x65\x87" +
		"\x34\x00" + "\x20\x00" + "\x03\x00" + strings.Repeat("\x00", 6) +
		"\x01\x00\x00\x00\x94\x00\x00\x00\x00\x10\x00\x00\x00\x10\x00\x00\x04\x00\x00\x00\x08\x00\x00\x00\x05\x00\x00\x00\x04\x00\x00\x00" +
		"\x01\x00\x00\x00\x98\x00\x00\x00\x00\x00\x00\xff\x00\x00\x00\xff\x00\x00\x00\x00\x00\x00\x00\x01\x00\x00\x00\x00\x04\x00\x00\x00" +
		"\x01\x00\x00\x00\x98\x00\x00\x00\x50\x40\x30\x20\x50\x40\x30\x20\x02\x00\x00\x00\x02\x00\x00\x00\x07\x00\x00\x00\x04\x00\x00\x00" +
		"abcd" + "ef"
	x := of(api.Seg{Addr: 0x1000, Data: "abcd", Size: 8, Flags: 5}, api.Seg{Addr: 0xff000000, Size: 1 << 24}, api.Seg{Addr: 0x20304050, Data: "ef", Size: 2, Flags: 7})
	if s, e := Write(x); s != want || e != api.OK {
		t.Errorf("%q, %v; not\n%q", s, e, want)
	}
	if s, e := Write(api.Elf{}); s != want[:24]+"\x00\x00\x00\x00"+want[28:36]+"\x00\x00\x00\x00"+want[40:44]+"\x00\x00"+want[46:52] || e != api.OK {
		t.Errorf("%q, %v", s, e)
	}
}

func TestWriteAsModel(t *testing.T) {
	r := rand.New(rand.NewSource(64))
	l := ordinary()
	for range 50000 {
		l = append(l, guess(r))
	}
	for _, x := range l {
		want, no := modelWrite(x)
		if s, e := Write(x); s != want || e != no {
			t.Fatalf("Write(%+v) = %q, %v; not %q, %v", x, s, e, want, no)
		}
	}
}

// What is written is a file of the standard, too.
func TestWriteStandard(t *testing.T) {
	for _, x := range ordinary() {
		s, _ := Write(x)
		f, err := stdelf.NewFile(strings.NewReader(s))
		if err != nil {
			t.Errorf("%q: %v", s, err)
			continue
		}
		if f.Class != stdelf.ELFCLASS32 || f.Data != stdelf.ELFDATA2LSB || f.Type != stdelf.ET_EXEC || f.Machine != stdelf.EM_RISCV || f.Entry != uint64(x.Entry) || len(f.Progs) != len(x.Segs) {
			t.Errorf("%q: %+v", s, f.FileHeader)
			continue
		}
		for i, g := range x.Segs {
			p := f.Progs[i]
			data, err := io.ReadAll(p.Open())
			if err != nil || string(data) != g.Data || p.Type != stdelf.PT_LOAD || p.Vaddr != uint64(g.Addr) || p.Paddr != p.Vaddr || p.Memsz != uint64(g.Size) || int(p.Flags) != g.Flags || p.Align != 4 {
				t.Errorf("%+v: %+v, %q, %v", g, p.ProgHeader, data, err)
			}
		}
	}
}

func TestWriteGreatest(t *testing.T) {
	data := strings.Repeat("0123456789abcdef", 1<<20)
	var x api.Elf
	for i := range 16 {
		x.Segs = append(x.Segs, api.Seg{Addr: -uint32(i+1) << 24, Data: data, Size: 1 << 24, Flags: i % 8})
	}
	s, e := Write(x)
	if e != api.OK || len(s) != 52+16*32+16<<24 {
		t.Fatal(len(s), e)
	}
	if y, e := Parse(s); e != api.OK || !same(x, y) {
		t.Error(e)
	}
	refuses(t, s[:len(s)-1], api.ErrElfShort)
}

// P6.4

func TestBackAndForth(t *testing.T) {
	r := rand.New(rand.NewSource(65))
	l := ordinary()
	for range 50000 {
		l = append(l, guess(r))
	}
	n := 0
	for _, x := range l {
		if s, e := Write(x); e == api.OK {
			takes(t, s, x)
			n++
		}
	}
	if n < 10000 {
		t.Error(n)
	}
}

func TestForthAndBack(t *testing.T) {
	r := rand.New(rand.NewSource(66))
	n := 0
	for range 100000 {
		b := []byte(modelFile(guess(r)))
		for range r.Intn(4) {
			spoil(r, b)
		}
		x, e := Parse(string(b))
		if e != api.OK {
			continue
		}
		n++
		s, e := Write(x)
		if e != api.OK {
			t.Fatalf("%+v: %v", x, e)
		}
		takes(t, s, x)
		if u, e := Write(x); u != s || e != api.OK {
			t.Fatalf("%+v: %q, %q", x, s, u)
		}
	}
	if n < 10000 {
		t.Error(n)
	}
}

// R3: no list and an empty one are the same.
func TestEmptyList(t *testing.T) {
	a, e := Write(api.Elf{Entry: 1, Segs: []api.Seg{}})
	b, f := Write(api.Elf{Entry: 1})
	if a != b || e != api.OK || f != api.OK || Check(api.Elf{Segs: []api.Seg{}}) != api.OK {
		t.Error(a, b, e, f)
	}
}

// R4

func TestHandedInStays(t *testing.T) {
	for _, x := range append(ordinary(), of(api.Seg{Addr: 9, Size: 9}, api.Seg{Addr: 1, Size: 9}), of(make([]api.Seg, 20)...)) {
		room := api.Seg{Addr: 77, Data: "room", Size: 7, Flags: 7}
		l := append(slices.Clone(x.Segs), room, room)
		keep := slices.Clone(l)
		x.Segs = l[:len(x.Segs)]
		Check(x)
		Write(x)
		if !slices.Equal(l, keep) {
			t.Errorf("%+v, not %+v", l, keep)
		}
	}
}

// shares tells whether two texts have memory in common.
func shares(a, b string) bool {
	if a == "" || b == "" {
		return false
	}
	p, q := uintptr(unsafe.Pointer(unsafe.StringData(a))), uintptr(unsafe.Pointer(unsafe.StringData(b)))
	return p < q+uintptr(len(b)) && q < p+uintptr(len(a))
}

func TestAnswersAreNew(t *testing.T) {
	x := of(api.Seg{Data: "abcdefgh", Size: 8}, api.Seg{Addr: 8, Data: "abcdefgh", Size: 8})
	s, _ := Write(x)
	if shares(s, x.Segs[0].Data) || shares(s, x.Segs[1].Data) {
		t.Error("what is written shares memory with the data")
	}
	s = set(s, 84+4, word(116)) // both rows tell of the same bytes
	y, e := Parse(s)
	z, f := Parse(s)
	if e != api.OK || f != api.OK || !same(x, y) {
		t.Fatal(y, e, z, f)
	}
	for i := range y.Segs {
		if shares(s, y.Segs[i].Data) || shares(y.Segs[0].Data, y.Segs[1].Data) || shares(y.Segs[i].Data, z.Segs[i].Data) {
			t.Error("what is parsed shares memory")
		}
	}
	room := y.Segs[:cap(y.Segs)]
	for i := range room {
		room[i] = api.Seg{}
	}
	if !same(z, x) {
		t.Error(z)
	}
	takes(t, s, x)
}

// The package's own panics are known one by one; another one is not hidden.
func TestUnknownPanic(t *testing.T) {
	defer func() {
		if r := recover(); r != "else" {
			t.Error(r)
		}
	}()
	t.Error(attempt(func() { panic("else") }))
}
