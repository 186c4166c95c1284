package elf

import (
	"bytes"
	"encoding/binary"
	"math/big"
	"slices"

	"whetstone/api"
)

// A second reading of the chapter, by the library's own means: the head and
// the rows are structs, numbers have no bound, and errors are answered, not
// thrown.

type modelHead struct {
	Mark           [7]byte
	Idle           [9]byte
	Kind, Machine  uint16
	Version        uint32
	Entry, Table   uint32
	Idle2          uint32
	Flags          uint32
	Head, Row, Num uint16
	Idle3          [6]byte
}

type modelRow struct {
	Kind, Place, Addr, Idle, Told, Size, Flags, Idle2 uint32
}

func modelCheck(x api.Elf) api.Errno {
	if len(x.Segs) > 16 {
		return api.ErrBig
	}
	for _, g := range x.Segs {
		end := new(big.Int).Add(big.NewInt(int64(g.Addr)), big.NewInt(int64(g.Size)))
		switch {
		case g.Size < 1, g.Size > 16777216, len(g.Data) > g.Size, g.Flags < 0, g.Flags > 7, end.Cmp(big.NewInt(4294967296)) > 0:
			return api.ErrElfForm
		}
	}
	// In the order of their addresses only neighbours can meet first.
	l := slices.Clone(x.Segs)
	slices.SortFunc(l, func(a, b api.Seg) int { return int(a.Addr) - int(b.Addr) })
	for i := 1; i < len(l); i++ {
		if last := int64(l[i-1].Addr) + int64(l[i-1].Size) - 1; last >= int64(l[i].Addr) {
			return api.ErrElfMeet
		}
	}
	return api.OK
}

func modelParse(s string) (api.Elf, api.Errno) {
	var h modelHead
	if _, err := binary.Decode([]byte(s[:min(len(s), 52)]), binary.LittleEndian, &h); err != nil {
		return api.Elf{}, api.ErrElfShort
	}
	told := modelHead{Mark: [7]byte{127, 'E', 'L', 'F', 1, 1, 1}, Idle: h.Idle, Kind: 2, Machine: 243, Version: 1,
		Entry: h.Entry, Table: h.Table, Idle2: h.Idle2, Flags: h.Flags, Head: 52, Row: 32, Num: h.Num, Idle3: h.Idle3}
	if h != told {
		return api.Elf{}, api.ErrElfClass
	}
	if h.Num > 16 {
		return api.Elf{}, api.ErrBig
	}
	table, ok := modelCut(s, uint64(h.Table), 32*uint64(h.Num))
	if !ok {
		return api.Elf{}, api.ErrElfShort
	}
	rows := make([]modelRow, h.Num)
	if err := binary.Read(bytes.NewReader([]byte(table)), binary.LittleEndian, rows); err != nil {
		panic(err)
	}
	x := api.Elf{Entry: h.Entry, Flags: h.Flags}
	for _, r := range rows {
		if r.Kind != 1 || r.Flags > 7 || r.Told > r.Size {
			return api.Elf{}, api.ErrElfForm
		}
		data, ok := modelCut(s, uint64(r.Place), uint64(r.Told))
		if !ok {
			return api.Elf{}, api.ErrElfShort
		}
		x.Segs = append(x.Segs, api.Seg{Addr: r.Addr, Data: data, Size: int(r.Size), Flags: int(r.Flags)})
	}
	if e := modelCheck(x); e != api.OK {
		return api.Elf{}, e
	}
	return x, api.OK
}

// modelCut are the bytes from a place on, if s has that place and all of them.
func modelCut(s string, at, n uint64) (string, bool) {
	if at > uint64(len(s)) || uint64(len(s))-at < n {
		return "", false
	}
	return s[at:][:n], true
}

func modelWrite(x api.Elf) (string, api.Errno) {
	if e := modelCheck(x); e != api.OK {
		return "", e
	}
	return modelFile(x), api.OK
}

// modelFile is the file of a program, also of one that may not be.
func modelFile(x api.Elf) string {
	var b bytes.Buffer
	put := func(v any) {
		if err := binary.Write(&b, binary.LittleEndian, v); err != nil {
			panic(err)
		}
	}
	put(modelHead{Mark: [7]byte{127, 'E', 'L', 'F', 1, 1, 1}, Kind: 2, Machine: 243, Version: 1,
		Entry: x.Entry, Table: 52, Flags: x.Flags, Head: 52, Row: 32, Num: uint16(len(x.Segs))})
	data := ""
	for _, g := range x.Segs {
		put(modelRow{Kind: 1, Place: uint32(52 + 32*len(x.Segs) + len(data)), Addr: g.Addr, Idle: g.Addr,
			Told: uint32(len(g.Data)), Size: uint32(g.Size), Flags: uint32(g.Flags), Idle2: 4})
		data += g.Data
	}
	return b.String() + data
}
