package image

import (
	"bytes"
	"encoding/binary"
	"math/rand"
	"slices"

	"whetstone/api"
	"whetstone/elf"
)

// A second reading of the chapter, by the library's own means: words are read
// and written by encoding/binary, addresses are told one by one, and a memory
// is a list of pieces.

func modelOf(x api.Elf) (api.Image, api.Errno) {
	if e := elf.Check(x); e != api.OK {
		return api.Image{}, e
	}
	var run []int
	for k, g := range x.Segs {
		if g.Flags%2 == 1 {
			run = append(run, k)
		}
	}
	if len(run) != 1 {
		return api.Image{}, api.ErrImageText
	}
	g := x.Segs[run[0]]
	switch {
	case g.Flags == 3, g.Flags == 7, g.Addr&3 != 0, len(g.Data)&3 != 0, g.Data == "", g.Size != len(g.Data):
		return api.Image{}, api.ErrImageText
	}
	words := make([]uint32, g.Size/4)
	if err := binary.Read(bytes.NewReader([]byte(g.Data)), binary.LittleEndian, words); err != nil {
		panic(err)
	}
	for k := range words {
		if x.Entry == g.Addr+4*uint32(k) {
			return api.Image{Base: g.Addr, Entry: x.Entry, Words: words, Seg: run[0]}, api.OK
		}
	}
	return api.Image{}, api.ErrImageEntry
}

func modelWith(x api.Elf, words []uint32) (api.Elf, api.Errno) {
	i, e := modelOf(x)
	switch {
	case e != api.OK:
		return api.Elf{}, e
	case len(words) != len(i.Words):
		return api.Elf{}, api.ErrArg
	}
	var b bytes.Buffer
	if err := binary.Write(&b, binary.LittleEndian, words); err != nil {
		panic(err)
	}
	y := api.Elf{Entry: x.Entry, Flags: x.Flags}
	for k, g := range x.Segs {
		if k == i.Seg {
			g.Data = b.String()
		}
		y.Segs = append(y.Segs, g)
	}
	return y, api.OK
}

// modelCells are the bytes of a program's memory that are not 0; its segments
// do not meet.
func modelCells(x api.Elf) []api.Cell {
	var l []api.Cell
	for _, g := range x.Segs {
		for k, b := range []byte(g.Data) {
			if b != 0 {
				l = append(l, api.Cell{Addr: g.Addr + uint32(k), B: b})
			}
		}
	}
	slices.SortFunc(l, func(a, b api.Cell) int { return int(a.Addr) - int(b.Addr) })
	return l
}

// chance is a program of which most numbers are right, and some are not.
func chance(r *rand.Rand) api.Elf {
	x := api.Elf{Flags: r.Uint32()}
	at := []uint32{0, 0x1000, 1<<31 - 8, 1<<32 - 96}[r.Intn(4)]
	text := r.Intn(1 + r.Intn(4))
	for k := range max(text+1, r.Intn(5)) {
		b := make([]byte, r.Intn(12))
		flags := []int{0, 2, 4, 6}[r.Intn(4)]
		if k == text {
			b, flags = make([]byte, 4*(1+r.Intn(4))), []int{1, 5}[r.Intn(2)]
			x.Entry = at + 4*uint32(r.Intn(len(b)/4))
		}
		r.Read(b)
		g := api.Seg{Addr: at, Data: string(b), Size: len(b), Flags: flags}
		if k != text {
			g.Size += 1 + r.Intn(4)
		}
		at = (at + uint32(g.Size) + 3) &^ 3
		x.Segs = append(x.Segs, g)
	}
	for r.Intn(2) == 0 {
		spoil(r, &x)
	}
	r.Shuffle(len(x.Segs), func(i, j int) { x.Segs[i], x.Segs[j] = x.Segs[j], x.Segs[i] })
	return x
}

// spoil changes one number of a program.
func spoil(r *rand.Rand, x *api.Elf) {
	g := &x.Segs[r.Intn(len(x.Segs))]
	switch r.Intn(6) {
	case 0:
		x.Entry += []uint32{1, 2, 3, 4, 8, 16, 1<<32 - 1, 1<<32 - 2, 1<<32 - 4, 1<<32 - 8, 1 << 31}[r.Intn(11)]
	case 1:
		g.Addr += uint32(r.Intn(9)) - 4
	case 2:
		g.Data = g.Data[:r.Intn(len(g.Data)+1)]
	case 3:
		g.Data = g.Data[:r.Intn(len(g.Data)+1)]
		g.Size = len(g.Data)
	case 4:
		g.Size += r.Intn(9) - 4
	case 5:
		g.Flags = r.Intn(9)
	}
}
