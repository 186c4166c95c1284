package elf

import (
	"strings"

	"whetstone/api"
)

// Bytes of the head and of a row of the table.
const (
	headSize = 52
	rowSize  = 32
)

// The head's numbers that are the same in every file, as they stand there,
// and where they stand.
const (
	mark  = "\x7fELF\x01\x01\x01"
	kind  = "\x02\x00\xf3\x00\x01\x00\x00\x00"
	sizes = "\x34\x00\x20\x00"

	atMark  = 0
	atKind  = 16
	atSizes = 40
)

// Where the head's other numbers stand.
const (
	atEntry = 24
	atTable = 28
	atFlags = 36
	atRows  = 44
)

// What stands in a row's first place and, where the row is written, in its
// last one.
const (
	rowKind  = 1
	rowAlign = 4
)

// row is what counts of a row of the table.
type row struct {
	kind, place, addr, told, size, flags uint32
}

// file is a file's bytes.
type file string

// look tells what is odd about a program.
func look(x api.Elf) {
	insist(len(x.Segs) <= api.MaxSegs, tooMany{})
	for _, g := range x.Segs {
		insist(mayBe(g), noForm{})
	}
	for i, g := range x.Segs {
		for _, h := range x.Segs[:i] {
			insist(apart(g, h), meeting{})
		}
	}
}

// mayBe tells whether a segment may be, whatever stands beside it.
func mayBe(g api.Seg) bool {
	return g.Size >= 1 && g.Size <= api.MaxSize &&
		len(g.Data) <= g.Size &&
		g.Flags >= 0 && g.Flags <= api.FlagRun|api.FlagWrite|api.FlagRead &&
		behind(g) <= 1<<32
}

// apart tells whether two segments have no address in common.
func apart(g, h api.Seg) bool {
	return behind(g) <= uint64(h.Addr) || behind(h) <= uint64(g.Addr)
}

// behind is the first place behind a segment; it may be 2^32, which is no
// address any more.
func behind(g api.Seg) uint64 {
	return uint64(g.Addr) + uint64(g.Size)
}

// program is the program that the file tells of.
func (f file) program() api.Elf {
	insist(len(f) >= headSize, tooShort{})
	insist(f.has(atMark, mark) && f.has(atKind, kind) && f.has(atSizes, sizes), noClass{})
	n := int(f.half(atRows))
	insist(n <= api.MaxSegs, tooMany{})
	at := int(f.word(atTable))
	// Asked for as a whole: a row that lacks tells ahead of one that is odd.
	f.piece(at, n*rowSize)
	x := api.Elf{Entry: f.word(atEntry), Flags: f.word(atFlags)}
	for i := range n {
		x.Segs = append(x.Segs, f.segment(f.row(at+i*rowSize)))
	}
	look(x)
	// The bytes are copied only now: a segment that may not be can tell of
	// far more of them than any that may.
	for i := range x.Segs {
		x.Segs[i].Data = strings.Clone(x.Segs[i].Data)
	}
	return x
}

// row is the row of the table at a place.
func (f file) row(at int) row {
	return row{
		kind:  f.word(at),
		place: f.word(at + 4),
		addr:  f.word(at + 8),
		told:  f.word(at + 16),
		size:  f.word(at + 20),
		flags: f.word(at + 24),
	}
}

// segment is the segment that a row tells of.
func (f file) segment(r row) api.Seg {
	insist(r.kind == rowKind && r.flags <= api.FlagRun|api.FlagWrite|api.FlagRead && r.told <= r.size, noForm{})
	return api.Seg{Addr: r.addr, Data: f.piece(int(r.place), int(r.told)), Size: int(r.size), Flags: int(r.flags)}
}

// has tells whether the text stands in the file at a place.
func (f file) has(at int, text string) bool {
	return f.piece(at, len(text)) == text
}

// half is the number of 2 bytes at a place.
func (f file) half(at int) uint32 {
	p := f.piece(at, 2)
	return uint32(p[0]) | uint32(p[1])<<8
}

// word is the number of 4 bytes at a place.
func (f file) word(at int) uint32 {
	return f.half(at) | f.half(at+2)<<16
}

// piece are n bytes of the file from a place on.
func (f file) piece(at, n int) string {
	insist(at+n <= len(f), tooShort{})
	return string(f[at : at+n])
}

// written is the file of a program that may be.
func written(x api.Elf) string {
	place := headSize + rowSize*len(x.Segs)
	var b strings.Builder
	b.Grow(place + bytesOf(x.Segs))
	putHead(&b, x)
	for _, g := range x.Segs {
		putRow(&b, g, place)
		place += len(g.Data)
	}
	for _, g := range x.Segs {
		b.WriteString(g.Data)
	}
	return b.String()
}

// bytesOf is how many bytes of data the segments have.
func bytesOf(l []api.Seg) int {
	n := 0
	for _, g := range l {
		n += len(g.Data)
	}
	return n
}

// putHead writes the head; the table stands right behind it.
func putHead(b *strings.Builder, x api.Elf) {
	b.WriteString(mark)
	putZeros(b, atKind)
	b.WriteString(kind)
	putWords(b, x.Entry, headSize, 0, x.Flags)
	b.WriteString(sizes)
	putNumber(b, 2, uint32(len(x.Segs)))
	putZeros(b, headSize)
}

// putRow writes the row of a segment whose bytes stand at a place.
func putRow(b *strings.Builder, g api.Seg, place int) {
	putWords(b, rowKind, uint32(place), g.Addr, g.Addr, uint32(len(g.Data)), uint32(g.Size), uint32(g.Flags), rowAlign)
}

// putWords writes numbers of 4 bytes each.
func putWords(b *strings.Builder, l ...uint32) {
	for _, v := range l {
		putNumber(b, 4, v)
	}
}

// putNumber writes a number of so many bytes, the lowest one first.
func putNumber(b *strings.Builder, size int, v uint32) {
	for range size {
		b.WriteByte(byte(v))
		v >>= 8
	}
}

// putZeros writes zeros up to a place.
func putZeros(b *strings.Builder, end int) {
	for b.Len() < end {
		b.WriteByte(0)
	}
}
