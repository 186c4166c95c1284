package image

import (
	"iter"
	"slices"
	"strings"

	"whetstone/api"
)

// wordSize is how many bytes a word has.
const wordSize = 4

// textOf is the number of the one segment that is run, and whether it may be
// a text.
func textOf(l []api.Seg) (int, bool) {
	k, n := 0, 0
	for i, g := range l {
		if g.Flags&api.FlagRun != 0 {
			k, n = i, n+1
		}
	}
	if n != 1 || !ofWords(l[k]) {
		return 0, false
	}
	return k, true
}

// ofWords tells whether a segment is some words, all of them told, at places
// of words, which nothing that is run may write over.
func ofWords(g api.Seg) bool {
	return g.Flags&api.FlagWrite == 0 &&
		g.Addr%wordSize == 0 &&
		len(g.Data)%wordSize == 0 &&
		len(g.Data) > 0 &&
		g.Size == len(g.Data)
}

// wordsOf are the words that a text's bytes are, the lowest byte of each
// first.
func wordsOf(s string) iter.Seq[uint32] {
	return func(yield func(uint32) bool) {
		for at := 0; at < len(s); at += wordSize {
			w := uint32(s[at]) | uint32(s[at+1])<<8 | uint32(s[at+2])<<16 | uint32(s[at+3])<<24
			if !yield(w) {
				return
			}
		}
	}
}

// listed are the words of a text's bytes as a list.
func listed(s string) []uint32 {
	l := make([]uint32, 0, len(s)/wordSize)
	for w := range wordsOf(s) {
		l = append(l, w)
	}
	return l
}

// written are the bytes of words: what wordsOf reads.
func written(words iter.Seq[uint32]) string {
	var b strings.Builder
	for w := range words {
		for range wordSize {
			b.WriteByte(byte(w))
			w >>= 8
		}
	}
	return b.String()
}

// copied is a program as it is, in memory of its own.
func copied(x api.Elf) api.Elf {
	x.Segs = slices.Clone(x.Segs)
	for k := range x.Segs {
		x.Segs[k].Data = strings.Clone(x.Segs[k].Data)
	}
	return x
}
