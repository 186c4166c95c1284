package word

import (
	"math"
	"testing"

	"whetstone/api"
)

const least, most = 0x80000000, 0x7fffffff

// sampleWords are words at the edges, and some without a shape.
func sampleWords() []uint32 {
	l := []uint32{0, 1, 2, 3, 5, 7, 31, 32, 33, 63, 64, 0xffff, 0x10000, 0x10001, 0x12345678, 0x55555555, 0xaaaaaaaa, 0xdeadbeef, most - 1, most, least, least + 1, 0xffff0000, 0xfffffff9, 0xfffffffe, 0xffffffff}
	x := uint32(1)
	for range 24 {
		x = x*1664525 + 1013904223
		l = append(l, x)
	}
	return l
}

// samplePlaces are places and lengths within a word, at its ends and far beyond.
func samplePlaces() []int {
	l := []int{math.MinInt, math.MinInt + 1, -1 << 32, -33, -32, -31, -2, 34, 63, 64, 65, 1 << 31, 1 << 32, 1<<32 + 1, math.MaxInt - 32, math.MaxInt - 31, math.MaxInt - 1, math.MaxInt}
	for k := -1; k <= 33; k++ {
		l = append(l, k)
	}
	return l
}

func bit(w uint32, k int) uint32 { return w >> k & 1 }

func inWord(at, n int) bool {
	return 0 <= at && at < 32 && 0 < n && n <= 32 && n <= 32-at
}

// P1.1

func TestFieldIsItsBits(t *testing.T) {
	for _, w := range sampleWords() {
		for _, at := range samplePlaces() {
			for _, n := range samplePlaces() {
				want := uint32(0)
				if inWord(at, n) {
					for k := range n {
						want += bit(w, at+k) << k
					}
				}
				if v := Field(w, at, n); v != want {
					t.Fatalf("Field(%#x, %d, %d): %#x, not %#x", w, at, n, v, want)
				}
			}
		}
	}
}

func TestPutSetsTheseBitsAlone(t *testing.T) {
	words := sampleWords()
	for i, w := range words {
		v := words[(i*7+3)%len(words)]
		for _, at := range samplePlaces() {
			for _, n := range samplePlaces() {
				want := w
				if inWord(at, n) {
					want = 0
					for k := range 32 {
						if k >= at && k < at+n {
							want += bit(v, k-at) << k
						} else {
							want += bit(w, k) << k
						}
					}
				}
				if p := Put(w, at, n, v); p != want {
					t.Fatalf("Put(%#x, %d, %d, %#x): %#x, not %#x", w, at, n, v, p, want)
				}
			}
		}
	}
}

func TestSignFillsWhatIsAbove(t *testing.T) {
	for _, w := range sampleWords() {
		for _, n := range samplePlaces() {
			want := w
			if n >= 1 && n <= 31 {
				want = 0
				for k := range 32 {
					want += bit(w, min(k, n-1)) << k
				}
			}
			if v := Sign(w, n); v != want {
				t.Fatalf("Sign(%#x, %d): %#x, not %#x", w, n, v, want)
			}
		}
	}
}

func TestFieldsByHand(t *testing.T) {
	for _, x := range []struct{ got, want uint32 }{
		{Field(0x12345678, 0, 32), 0x12345678},
		{Field(0x12345678, 31, 1), 0},
		{Field(0x92345678, 31, 1), 1},
		{Field(0xffffffff, 31, 2), 0},
		{Field(0xffffffff, 32, 1), 0},
		{Field(0xffffffff, 0, 0), 0},
		{Field(0xffffffff, 0, 33), 0},
		{Field(0xffffffff, -1, 2), 0},
		{Field(0xffffffff, 1, -1), 0},
		{Field(0xffffffff, 1, math.MaxInt), 0},
		{Put(0, 0, 32, 0x12345678), 0x12345678},
		{Put(0xffffffff, 31, 1, 2), 0x7fffffff},
		{Put(7, 31, 2, 3), 7},
		{Put(7, 32, 1, 1), 7},
		{Put(7, 0, 0, 0), 7},
		{Put(7, 0, 33, 0), 7},
		{Put(7, -1, 1, 0), 7},
		{Put(7, 0, -1, 0), 7},
		{Sign(0xfff, 12), 0xffffffff},
		{Sign(0x7fff, 12), 0xffffffff},
		{Sign(0xf7ff, 12), 0x7ff},
		{Sign(0x40000000, 31), 0xc0000000},
		{Sign(0x80000000, 31), 0},
		{Sign(0x80000001, 32), 0x80000001},
		{Sign(0xfff, 0), 0xfff},
		{Sign(0xfff, -12), 0xfff},
		{Sign(0xfff, math.MinInt), 0xfff},
	} {
		if x.got != x.want {
			t.Errorf("%#x, not %#x", x.got, x.want)
		}
	}
}

// P1.3

func TestWhatIsPutIsTheField(t *testing.T) {
	words := sampleWords()
	for i, w := range words {
		v := words[len(words)-1-i]
		for at := range 32 {
			for n := 1; n <= 32-at; n++ {
				p := Put(w, at, n, v)
				if f := Field(p, at, n); f != Field(v, 0, n) {
					t.Fatalf("Put(%#x, %d, %d, %#x): its field is %#x", w, at, n, v, f)
				}
				if Field(p, 0, at) != Field(w, 0, at) || Field(p, at+n, 32-at-n) != Field(w, at+n, 32-at-n) {
					t.Fatalf("Put(%#x, %d, %d, %#x): %#x: the rest has changed", w, at, n, v, p)
				}
			}
		}
	}
}

func must(t *testing.T, op int, a, b uint32) uint32 {
	t.Helper()
	v, e := Do(op, a, b)
	if e != api.OK {
		t.Fatalf("Do(%d, %#x, %#x): error %d", op, a, b, e)
	}
	return v
}

func TestQuotientTimesDivisorAndRest(t *testing.T) {
	for _, a := range sampleWords() {
		for _, b := range sampleWords() {
			if v := must(t, api.Div, a, b)*b + must(t, api.Rem, a, b); v != a {
				t.Fatalf("signed: %#x by %#x: back %#x", a, b, v)
			}
			if v := must(t, api.Divu, a, b)*b + must(t, api.Remu, a, b); v != a {
				t.Fatalf("unsigned: %#x by %#x: back %#x", a, b, v)
			}
		}
	}
}

func TestHalvesAreTheWholeProduct(t *testing.T) {
	for _, a := range sampleWords() {
		for _, b := range sampleWords() {
			whole := uint64(must(t, api.Mulhu, a, b))<<32 + uint64(must(t, api.Mul, a, b))
			if whole != uint64(a)*uint64(b) {
				t.Fatalf("%#x by %#x: %#x", a, b, whole)
			}
		}
	}
}

func TestSraOfNoneBelowZeroIsSrl(t *testing.T) {
	for _, a := range sampleWords() {
		for _, b := range sampleWords() {
			a := a & most
			if s, z := must(t, api.Sra, a, b), must(t, api.Srl, a, b); s != z {
				t.Fatalf("%#x by %#x: %#x, %#x", a, b, s, z)
			}
		}
	}
}
