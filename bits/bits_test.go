package bits_test

import (
	"bytes"
	"math"
	"math/big"
	"testing"

	"caponier/bits"
)

// someWords: the edges, single bits and their neighbours, and words without a pattern, which are the same in each run.
func someWords() []uint64 {
	l := []uint64{0, 0xabcd, 0x8123456789abcdef, 0x0123456789abcdef, 0xaaaaaaaaaaaaaaaa, 0x5555555555555555, math.MaxUint64}
	for i := range 64 {
		l = append(l, uint64(1)<<i, uint64(1)<<i-1, ^(uint64(1) << i))
	}
	x := uint64(88172645463325252)
	for range 20 {
		x ^= x << 13
		x ^= x >> 7
		x ^= x << 17
		l = append(l, x)
	}
	return l
}

func bit(v uint64, i int) uint64 {
	return v / (uint64(1) << i) % 2
}

// slowField reckons bit by bit, so that it has no mask in common with what it tests.
func slowField(v uint64, from, n int) uint64 {
	f := uint64(0)
	for i := n - 1; i >= 0; i-- {
		f = f*2 + bit(v, from+i)
	}
	return f
}

func slowPut(v uint64, from, n int, x uint64) uint64 {
	w := uint64(0)
	for i := 63; i >= 0; i-- {
		if i >= from && i < from+n {
			w = w*2 + bit(x, i-from)
		} else {
			w = w*2 + bit(v, i)
		}
	}
	return w
}

// slowSign reckons without bounds, by the chapter's own words: the field, less 2^n.
func slowSign(v uint64, n int) int64 {
	f := new(big.Int).SetUint64(slowField(v, 0, n))
	if bit(v, n-1) == 1 {
		f.Sub(f, new(big.Int).Lsh(big.NewInt(1), uint(n)))
	}
	return f.Int64()
}

// wrongFields are a from and an n each; the greatest and least ones would wrap in a careless sum.
func wrongFields() [][2]int {
	l := [][2]int{
		{-1, 0}, {-1, 1}, {-1, 65}, {0, -1}, {64, -1}, {65, 0}, {65, -1}, {65, 1},
		{math.MinInt, 0}, {math.MinInt, 1}, {math.MinInt, math.MinInt}, {math.MinInt, math.MaxInt},
		{math.MaxInt, 0}, {math.MaxInt, 1}, {math.MaxInt, math.MaxInt}, {math.MaxInt, math.MinInt},
		{0, math.MaxInt}, {0, math.MinInt}, {64, math.MaxInt}, {1, math.MaxInt}, {64, math.MinInt},
	}
	for from := range 65 {
		l = append(l, [2]int{from, 65 - from})
	}
	return l
}

// wrongCounts are no numbers of bits by which anything is signed.
func wrongCounts() []int {
	return []int{0, -1, -63, -64, 65, 66, 127, 128, 129, 256, 1 << 32, 1<<32 + 1, math.MaxInt, math.MinInt, math.MinInt + 1}
}

func TestField(t *testing.T) {
	for _, c := range []struct {
		v       uint64
		from, n int
		f       uint64
	}{
		{0xabcd, 4, 8, 0xbc},
		{0xabcd, 0, 0, 0},
		{0xabcd, 0, 64, 0xabcd},
		{math.MaxUint64, 0, 64, math.MaxUint64},
		{math.MaxUint64, 64, 0, 0},
		{math.MaxUint64, 63, 1, 1},
		{math.MaxUint64, 63, 0, 0},
		{1 << 63, 1, 63, 1 << 62},
		{1<<63 - 1, 63, 1, 0},
	} {
		if f, ok := bits.Field(c.v, c.from, c.n); f != c.f || !ok {
			t.Errorf("P1.1: Field(%#x, %d, %d) = %#x, %v; want %#x", c.v, c.from, c.n, f, ok, c.f)
		}
	}
	for _, v := range someWords() {
		for from := range 65 {
			for n := range 65 - from {
				if f, ok := bits.Field(v, from, n); f != slowField(v, from, n) || !ok {
					t.Fatalf("P1.1: Field(%#x, %d, %d) = %#x, %v; want %#x", v, from, n, f, ok, slowField(v, from, n))
				}
			}
		}
	}
}

func TestPut(t *testing.T) {
	for _, c := range []struct {
		v       uint64
		from, n int
		x, w    uint64
	}{
		{math.MaxUint64, 8, 16, 0x10000, 0xffffffffff0000ff},
		{0, 4, 8, 0xfabc, 0xbc0},
		{0xabcd, 0, 0, math.MaxUint64, 0xabcd},
		{0xabcd, 64, 0, math.MaxUint64, 0xabcd},
		{0xabcd, 0, 64, 0x1234, 0x1234},
		{0, 63, 1, math.MaxUint64, 1 << 63},
		{math.MaxUint64, 63, 1, 0xfffffffffffffffe, 1<<63 - 1},
	} {
		if w, ok := bits.Put(c.v, c.from, c.n, c.x); w != c.w || !ok {
			t.Errorf("P1.1: Put(%#x, %d, %d, %#x) = %#x, %v; want %#x", c.v, c.from, c.n, c.x, w, ok, c.w)
		}
	}
	for _, v := range []uint64{0, math.MaxUint64, 0x8123456789abcdef} {
		for _, x := range someWords()[:30] {
			for from := range 65 {
				for n := range 65 - from {
					if w, ok := bits.Put(v, from, n, x); w != slowPut(v, from, n, x) || !ok {
						t.Fatalf("P1.1: Put(%#x, %d, %d, %#x) = %#x, %v; want %#x", v, from, n, x, w, ok, slowPut(v, from, n, x))
					}
				}
			}
		}
	}
}

func TestNoField(t *testing.T) {
	for _, c := range wrongFields() {
		for _, v := range []uint64{0, 1, 1 << 63, math.MaxUint64} {
			if f, ok := bits.Field(v, c[0], c[1]); f != 0 || ok {
				t.Errorf("P1.1: Field(%#x, %d, %d) = %#x, %v; want 0, false", v, c[0], c[1], f, ok)
			}
			if w, ok := bits.Put(v, c[0], c[1], ^v); w != 0 || ok {
				t.Errorf("P1.1: Put(%#x, %d, %d, %#x) = %#x, %v; want 0, false", v, c[0], c[1], ^v, w, ok)
			}
		}
	}
}

func TestSign(t *testing.T) {
	for _, c := range []struct {
		v uint64
		n int
		x int64
	}{
		{0xff, 8, -1},
		{0x7f, 8, 127},
		{0x80, 8, -128},
		{0x17f, 8, 127},
		{0x180, 8, -128},
		{0, 1, 0},
		{1, 1, -1},
		{2, 1, 0},
		{1 << 63, 64, math.MinInt64},
		{1<<63 - 1, 64, math.MaxInt64},
		{math.MaxUint64, 64, -1},
		{1 << 63, 63, 0},
		{1 << 62, 63, -1 << 62},
	} {
		if x := bits.Sign(c.v, c.n); x != c.x {
			t.Errorf("P1.2: Sign(%#x, %d) = %d; want %d", c.v, c.n, x, c.x)
		}
	}
	for _, v := range someWords() {
		for n := 1; n <= 64; n++ {
			if x := bits.Sign(v, n); x != slowSign(v, n) {
				t.Fatalf("P1.2: Sign(%#x, %d) = %d; want %d", v, n, x, slowSign(v, n))
			}
		}
		for _, n := range wrongCounts() {
			if x := bits.Sign(v, n); x != 0 {
				t.Errorf("P1.2: Sign(%#x, %d) = %d; want 0", v, n, x)
			}
		}
	}
}

func TestFits(t *testing.T) {
	for n := 1; n <= 64; n++ {
		least, most := int64(-1)<<(n-1), int64(uint64(1)<<(n-1)-1)
		for _, x := range []int64{least, most, 0, -1, least / 2, most / 2} {
			if !bits.Fits(x, n) {
				t.Errorf("P1.2: Fits(%d, %d) is false", x, n)
			}
		}
		if n == 64 {
			continue
		}
		for _, x := range []int64{least - 1, most + 1, math.MinInt64, math.MaxInt64} {
			if bits.Fits(x, n) {
				t.Errorf("P1.2: Fits(%d, %d) is true", x, n)
			}
		}
	}
	for _, n := range wrongCounts() {
		for _, x := range []int64{0, 1, -1, math.MinInt64, math.MaxInt64} {
			if bits.Fits(x, n) {
				t.Errorf("P1.2: Fits(%d, %d) is true", x, n)
			}
		}
	}
}

func TestFitsU(t *testing.T) {
	for n := 1; n <= 64; n++ {
		most := uint64(math.MaxUint64) >> (64 - n)
		for _, x := range []uint64{0, 1, most / 2, most} {
			if !bits.FitsU(x, n) {
				t.Errorf("P1.2: FitsU(%d, %d) is false", x, n)
			}
		}
		if n == 64 {
			continue
		}
		for _, x := range []uint64{most + 1, 1 << 63, math.MaxUint64} {
			if bits.FitsU(x, n) {
				t.Errorf("P1.2: FitsU(%d, %d) is true", x, n)
			}
		}
	}
	for _, n := range wrongCounts() {
		for _, x := range []uint64{0, 1, 1 << 63, math.MaxUint64} {
			if bits.FitsU(x, n) {
				t.Errorf("P1.2: FitsU(%d, %d) is true", x, n)
			}
		}
	}
}

func TestBytes(t *testing.T) {
	all := []byte{8, 7, 6, 5, 4, 3, 2, 1}
	for n := range 9 {
		if b := bits.Bytes(0x0102030405060708, n); !bytes.Equal(b, all[:n]) {
			t.Errorf("P1.3: Bytes(.., %d) = %v; want %v", n, b, all[:n])
		}
	}
	if b := bits.Bytes(1<<63, 8); !bytes.Equal(b, []byte{0, 0, 0, 0, 0, 0, 0, 0x80}) {
		t.Errorf("P1.3: Bytes(1<<63, 8) = %v", b)
	}
	for _, n := range []int{-1, -8, 9, 10, 64, math.MaxInt, math.MinInt} {
		if b := bits.Bytes(math.MaxUint64, n); len(b) != 0 {
			t.Errorf("P1.3: Bytes(.., %d) = %v; want nothing", n, b)
		}
	}
}

func TestBytesAreTheCallersOwn(t *testing.T) {
	a := bits.Bytes(0x0102, 2)
	a[0], a[1] = 9, 9
	if b := bits.Bytes(0x0102, 2); !bytes.Equal(b, []byte{2, 1}) {
		t.Errorf("P1.3: written over behind the call, and now %v", b)
	}
}

func TestWord(t *testing.T) {
	for _, c := range []struct {
		b []byte
		v uint64
	}{
		{nil, 0},
		{[]byte{}, 0},
		{[]byte{0xff}, 0xff},
		{[]byte{1, 2, 0}, 513},
		{[]byte{0, 0, 0, 0, 0, 0, 0, 0x80}, 1 << 63},
		{[]byte{8, 7, 6, 5, 4, 3, 2, 1}, 0x0102030405060708},
		{bytes.Repeat([]byte{0xff}, 8), math.MaxUint64},
	} {
		was := bytes.Clone(c.b)
		if v, ok := bits.Word(c.b); v != c.v || !ok {
			t.Errorf("P1.3: Word(%v) = %#x, %v; want %#x", c.b, v, ok, c.v)
		}
		if !bytes.Equal(c.b, was) {
			t.Errorf("P1.3: Word changed %v to %v", was, c.b)
		}
	}
	for _, n := range []int{9, 10, 16, 1000} {
		for _, x := range []byte{0, 1} { // nine bytes are too many, even where the number would have room
			if v, ok := bits.Word(bytes.Repeat([]byte{x}, n)); v != 0 || ok {
				t.Errorf("P1.3: Word of %d bytes %d = %#x, %v; want 0, false", n, x, v, ok)
			}
		}
	}
}

func TestBytesAndWordUndoEachOther(t *testing.T) {
	for _, v := range someWords() {
		for n := range 9 {
			b := bits.Bytes(v, n)
			if w, ok := bits.Word(b); len(b) != n || w != slowField(v, 0, 8*n) || !ok {
				t.Fatalf("P1.3: Word(Bytes(%#x, %d)) = %#x, %v", v, n, w, ok)
			}
		}
	}
}

func TestWhatIsPutIsTheFieldAndAllOthersStay(t *testing.T) {
	words := someWords()
	for i, v := range words {
		x := words[len(words)-1-i]
		for from := range 65 {
			for n := range 65 - from {
				w, _ := bits.Put(v, from, n, x)
				put, ok := bits.Field(w, from, n)
				want, _ := bits.Field(x, 0, n)
				if !ok || put != want {
					t.Fatalf("P1.4: put %#x at %d+%d of %#x: the field is %#x", x, from, n, v, put)
				}
				below, _ := bits.Field(w, 0, from)
				wasBelow, _ := bits.Field(v, 0, from)
				above, _ := bits.Field(w, from+n, 64-from-n)
				wasAbove, _ := bits.Field(v, from+n, 64-from-n)
				if below != wasBelow || above != wasAbove {
					t.Fatalf("P1.4: put %#x at %d+%d of %#x: %#x", x, from, n, v, w)
				}
			}
		}
	}
}

func TestWhatFitsIsItselfSigned(t *testing.T) {
	for _, v := range someWords() {
		for n := 1; n <= 64; n++ {
			x := bits.Sign(v, n)
			if !bits.Fits(x, n) || bits.Sign(uint64(x), n) != x {
				t.Fatalf("P1.4: %#x signed by %d bits is %d, and doesn't fit", v, n, x)
			}
			if y := int64(v); bits.Fits(y, n) != (bits.Sign(v, n) == y) {
				t.Fatalf("P1.4: Fits(%d, %d) is %v", y, n, bits.Fits(y, n))
			}
			if f, _ := bits.Field(v, 0, n); bits.FitsU(v, n) != (f == v) {
				t.Fatalf("P1.4: FitsU(%#x, %d) is %v", v, n, bits.FitsU(v, n))
			}
		}
	}
}
