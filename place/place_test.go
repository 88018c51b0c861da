package place_test

import (
	"fmt"
	"math"
	"math/rand"
	"slices"
	"strconv"
	"testing"

	"caponier/api"
	"caponier/ins"
	"caponier/obj"
	"caponier/place"
)

// Bases that may be.
const (
	textBase = 0x1000
	dataBase = 0x2ff8
	highest  = 1 << 30
)

// short is something told in few characters, since some lists are great.
func short(x any) string {
	s := fmt.Sprintf("%x", x)
	if len(s) > 400 {
		return s[:400] + ".."
	}
	return s
}

// wantAsSlow wants each call to answer of a list what the slow way does, and Link and Spots to tell this code.
func wantAsSlow(t *testing.T, what string, l []api.Obj, text, data uint64, code api.Code) {
	t.Helper()
	texts, datas := place.Sizes(l)
	if a, b := slowSizes(l); texts != a || datas != b {
		t.Errorf("P8.1: %s: Sizes is %d, %d; want %d, %d", what, texts, datas, a, b)
	}
	wantSpots, wantCode := slowSpots(l, text, data)
	s, e := place.Spots(l, text, data)
	if e != wantCode || !slices.Equal(s, wantSpots) {
		t.Fatalf("P8.1: %s: Spots is %s, %d; want %s, %d", what, short(s), e, short(wantSpots), wantCode)
	}
	wantText, wantData, wantCode := slowLink(l, text, data)
	if wantCode != code {
		t.Fatalf("%s: the test is wrong: %d, not %d", what, wantCode, code)
	}
	gotText, gotData, e := place.Link(l, text, data)
	if e != code || !slices.Equal(gotText, wantText) || !slices.Equal(gotData, wantData) {
		t.Fatalf("P8.3: %s: Link is %s, %s, %d; want %s, %s, %d", what, short(gotText), short(gotData), e, short(wantText), short(wantData), code)
	}
}

// callee is an object whose names others use: in its text's midst and at its end, in its data's midst and at its end.
func callee() api.Obj {
	return made("+f:4 +end:12 +#d:8 +#rest:16 own:8", of(3, 4), lines(3)...)
}

// caller is an object with relocations of each kind: by names of its own and of the callee's, of the text and of the data, with what is added above 0, 0 and below it.
func caller() api.Obj {
	return made("g:8 +#own:8 +stop:68", of(1, 2),
		line{x: api.Ins{Op: api.Lui, Rd: 5}, kind: api.RelHi, name: "d"},
		line{x: api.Ins{Op: api.Addi, Rd: 5, Rs1: 5}, kind: api.RelLo, name: "d"},
		line{x: api.Ins{Op: api.Lui, Rd: 6}, kind: api.RelHi, name: "own", add: 4096},
		line{x: api.Ins{Op: api.Ld, Rd: 7, Rs1: 6}, kind: api.RelLo, name: "own", add: 4096},
		line{x: api.Ins{Op: api.Lbu, Rd: 8, Rs1: 6}, kind: api.RelLo, name: "own", add: 1},
		line{x: api.Ins{Op: api.Sd, Rs1: 6, Rs2: 9}, kind: api.RelLo, name: "own", add: -8},
		line{x: api.Ins{Op: api.Sb, Rs1: 6, Rs2: 9}, kind: api.RelLo, name: "rest", add: -1},
		line{x: api.Ins{Op: api.Lui, Rd: 31}, kind: api.RelHi, name: "f", add: -4096},
		line{x: api.Ins{Op: api.Addi, Rd: 30, Rs1: 29}, kind: api.RelLo, name: "g", add: -4096},
		line{x: api.Ins{Op: api.Jal, Rd: 1}, kind: api.RelJump, name: "f"},
		line{x: api.Ins{Op: api.Jal}, kind: api.RelJump, name: "g", add: -4},
		line{x: api.Ins{Op: api.Jal, Rd: 2}, kind: api.RelJump, name: "end", add: 8},
		line{x: api.Ins{Op: api.Beq, Rs1: 1, Rs2: 2}, kind: api.RelBranch, name: "f"},
		line{x: api.Ins{Op: api.Bne, Rs1: 3}, kind: api.RelBranch, name: "g", add: 40},
		line{x: api.Ins{Op: api.Bltu, Rs2: 4}, kind: api.RelBranch, name: "g", add: -8},
		line{x: api.Ins{Op: api.Jal}, kind: api.RelJump, name: "d"},
		line{x: api.Ins{Op: api.Bgeu}, kind: api.RelBranch, name: "stop", add: -4},
	)
}

// TestLink: what each relocation of the two objects comes to, reckoned by hand.
func TestLink(t *testing.T) {
	l := []api.Obj{caller(), callee()}
	text, data, e := place.Link(l, 0x1000, 0x17f0)
	// The caller lies at 0x1000 and 0x17f0, the callee at 0x1044 and 0x1800: own is 0x17f8, d 0x1808, rest 0x1810, g 0x1008, f 0x1048, end 0x1050.
	want := []uint32{
		word(api.Ins{Op: api.Lui, Rd: 5, Imm: 0x2000}),
		word(api.Ins{Op: api.Addi, Rd: 5, Rs1: 5, Imm: -0x7f8}),
		word(api.Ins{Op: api.Lui, Rd: 6, Imm: 0x2000}),
		word(api.Ins{Op: api.Ld, Rd: 7, Rs1: 6, Imm: 0x7f8}),
		word(api.Ins{Op: api.Lbu, Rd: 8, Rs1: 6, Imm: 0x7f9}),
		word(api.Ins{Op: api.Sd, Rs1: 6, Rs2: 9, Imm: 0x7f0}),
		word(api.Ins{Op: api.Sb, Rs1: 6, Rs2: 9, Imm: -0x7f1}),
		word(api.Ins{Op: api.Lui, Rd: 31, Imm: 0}),
		word(api.Ins{Op: api.Addi, Rd: 30, Rs1: 29, Imm: 8}),
		word(api.Ins{Op: api.Jal, Rd: 1, Imm: 0x1048 - 0x1024}),
		word(api.Ins{Op: api.Jal, Imm: 0x1004 - 0x1028}),
		word(api.Ins{Op: api.Jal, Rd: 2, Imm: 0x1058 - 0x102c}),
		word(api.Ins{Op: api.Beq, Rs1: 1, Rs2: 2, Imm: 0x1048 - 0x1030}),
		word(api.Ins{Op: api.Bne, Rs1: 3, Imm: 0x1030 - 0x1034}),
		word(api.Ins{Op: api.Bltu, Rs2: 4, Imm: 0x1000 - 0x1038}),
		word(api.Ins{Op: api.Jal, Imm: 0x1808 - 0x103c}),
		word(api.Ins{Op: api.Bgeu}),
		0x13, 0x13, 0x13,
	}
	if e != api.OK || !slices.Equal(data, of(1, 2, 3, 4)) || len(text) != len(want) {
		t.Fatalf("P8.3: %x, %x, %d", text, data, e)
	}
	for i, w := range want {
		if text[i] != w {
			t.Errorf("P8.3: word %d is %x; want %x", i, text[i], w)
		}
	}
}

// TestOneName: an object's own goes ahead of another's.
func TestOneName(t *testing.T) {
	jump := line{x: api.Ins{Op: api.Jal}, kind: api.RelJump, name: "f"}
	l := []api.Obj{made("f:4", nil, jump, jump), made("+f:0", nil, jump), made("", nil, jump), made("#f:0", of(0), jump)}
	text, _, e := place.Link(l, 0x2000, 0x2100)
	want := []uint32{word(api.Ins{Op: api.Jal, Imm: 4}), word(api.Ins{Op: api.Jal}), word(api.Ins{Op: api.Jal}), word(api.Ins{Op: api.Jal, Imm: -4}), word(api.Ins{Op: api.Jal, Imm: 0xf0})}
	if e != api.OK || !slices.Equal(text, want) {
		t.Errorf("P8.3: %x, %d; want %x", text, e, want)
	}
}

// listed is a list, and what it is.
type listed struct {
	what string
	l    []api.Obj
}

// rightLists are lists that can be linked at the bases.
func rightLists() []listed {
	self := line{x: api.Ins{Op: api.Jal, Rd: 1}, kind: api.RelJump, name: "f"}
	branch := line{x: api.Ins{Op: api.Bge, Rs1: 1}, kind: api.RelBranch, name: "f"}
	address := line{x: api.Ins{Op: api.Ld}, kind: api.RelLo, name: "d"}
	return []listed{
		{"no list", nil},
		{"no object", []api.Obj{}},
		{"an empty object", []api.Obj{{}}},
		{"16 empty objects", make([]api.Obj, 16)},
		{"an object alone", []api.Obj{callee()}},
		{"two", []api.Obj{caller(), callee()}},
		{"two, the other way round", []api.Obj{callee(), caller()}},
		{"several, some empty", []api.Obj{{}, caller(), {}, made("", of(9), lines(1)...), callee(), {}}},
		{"without text", []api.Obj{made("+#d:8", of(5, 6)), made("", nil, address), made("", of(7))}},
		{"without data", []api.Obj{made("+d:8", nil, lines(2)...), made("", nil, address), made("", nil, lines(3)...)}},
		{"without text, names at its beginning", []api.Obj{made("", nil, address), made("+d:0", of(1)), made("", of(2))}},
		{"without data, names at its beginning", []api.Obj{made("", of(1), address), made("+#d:0", nil), made("", of(2))}},
		{"without both, names in it", []api.Obj{made("", of(1), address, self), made("+d:0 +#f:0", nil), made("", of(2), lines(1)...)}},
		{"one without text, one without data", []api.Obj{made("", of(1, 2, 3)), callee(), made("", nil, lines(5)...), caller()}},
		{"jumps and branches to themselves", []api.Obj{made("f:0", nil, self), made("f:4", nil, lines(1)[0], branch), made("f:0", nil, branch)}},
		{"forward and back", []api.Obj{made("f:8", nil, self, branch, lines(1)[0], self, branch)}},
		{"to another one's, forward and back", []api.Obj{made("", nil, self, branch), made("+f:4", nil, self, branch, branch), made("", nil, branch, self)}},
		{"names at the ends", []api.Obj{made("+f:8 +#d:16", of(1, 2), self, address), made("f:8 #d:8", of(3), branch, address), made("", of(4), self, address)}},
		{"16 objects", slices.Repeat([]api.Obj{made("f:4 #d:8", of(1, 2), self, branch, address)}, 16)},
		{"a number in its place ahead", []api.Obj{made("f:0 #d:0", of(1),
			line{x: api.Ins{Op: api.Jal, Rd: 3, Imm: -1048576}, kind: api.RelJump, name: "f"},
			line{x: api.Ins{Op: api.Beq, Rs1: 3, Imm: 4094}, kind: api.RelBranch, name: "f"},
			line{x: api.Ins{Op: api.Lui, Rd: 3, Imm: -4096}, kind: api.RelHi, name: "d"},
			line{x: api.Ins{Op: api.Sd, Rs1: 3, Rs2: 4, Imm: -1}, kind: api.RelLo, name: "d"},
			line{x: api.Ins{Op: api.Addi, Rd: 3, Imm: 2047}})}},
	}
}

func TestListsThatAreRight(t *testing.T) {
	for _, x := range rightLists() {
		for _, bases := range [][2]uint64{{textBase, dataBase}, {0, 0}, {8, 0}, {0, 8}, {0x100000, 0x100000}, {highest, highest}, {highest, highest - 8}, {highest - 8, highest}, {0x12340, 0x1ff80}} {
			wantAsSlow(t, x.what, x.l, bases[0], bases[1], api.OK)
		}
	}
}

func TestSpots(t *testing.T) {
	l := []api.Obj{callee(), {}, made("", nil, lines(1)...), made("", of(1, 2, 3)), caller()}
	want := []api.Spot{{Text: 0x1000, Data: 0x2ff8}, {Text: 0x100c, Data: 0x3008}, {Text: 0x100c, Data: 0x3008}, {Text: 0x1010, Data: 0x3008}, {Text: 0x1010, Data: 0x3020}}
	if s, e := place.Spots(l, textBase, dataBase); e != api.OK || !slices.Equal(s, want) {
		t.Errorf("P8.1: Spots is %x, %d; want %x", s, e, want)
	}
	for _, bases := range [][2]uint64{{0, 0}, {highest, 0}, {0, highest}, {highest, highest}} {
		s, e := place.Spots([]api.Obj{callee(), {}}, bases[0], bases[1])
		if want := []api.Spot{{Text: bases[0], Data: bases[1]}, {Text: bases[0] + 12, Data: bases[1] + 16}}; e != api.OK || !slices.Equal(s, want) {
			t.Errorf("P8.1: Spots at %x is %x, %d; want %x", bases, s, e, want)
		}
	}
	// Spots asks nothing of what doesn't fit.
	far := []api.Obj{made("#d:0", of(1), line{x: api.Ins{Op: api.Jal}, kind: api.RelJump, name: "d"})}
	if s, e := place.Spots(far, 0, highest); e != api.OK || !slices.Equal(s, []api.Spot{{Data: highest}}) {
		t.Errorf("P8.1: Spots is %x, %d", s, e)
	}
}

func TestSizes(t *testing.T) {
	for _, x := range []struct {
		what       string
		l          []api.Obj
		text, data int
	}{
		{"no list", nil, 0, 0},
		{"empty objects", make([]api.Obj, 20), 0, 0},
		{"two", []api.Obj{caller(), callee()}, 20, 4},
		{"no data", []api.Obj{made("", nil, lines(7)...)}, 7, 0},
		{"no text", []api.Obj{made("", of(1, 2)), made("", of(3))}, 0, 3},
		{"the most", full(16, 4096, 1024), 4096, 1024},
		{"one more", append(full(15, 4096, 1024), made("", of(1), lines(1)...)), 4097, 1025},
		{"objects that may not be", []api.Obj{{Text: make([]uint32, 5000), Data: make([]uint64, 2000)}, {Text: []uint32{0}}}, 5001, 2000},
		{"17 objects that clash", slices.Repeat([]api.Obj{caller()}, 17), 289, 34},
	} {
		if text, data := place.Sizes(x.l); text != x.text || data != x.data {
			t.Errorf("P8.1: %s: Sizes is %d, %d; want %d, %d", x.what, text, data, x.text, x.data)
		}
	}
}

// full is a list of n objects, that have so many words of text and of data in all.
func full(n, text, data int) []api.Obj {
	var l []api.Obj
	for i := range n {
		x := (i+1)*text/n - i*text/n
		y := (i+1)*data/n - i*data/n
		l = append(l, made("", make([]uint64, y), lines(x)...))
	}
	return l
}

func TestHowMuchThereMayBe(t *testing.T) {
	for _, n := range []int{1, 2, 3, 16} {
		what := strconv.Itoa(n) + " objects"
		wantAsSlow(t, what+", the most", full(n, 4096, 1024), textBase, dataBase, api.OK)
		wantAsSlow(t, what+", the most text", full(n, 4096, 0), highest, highest, api.OK)
		wantAsSlow(t, what+", the most data", full(n, 0, 1024), highest, highest, api.OK)
		if n > 1 { // One object alone of more may not be.
			wantAsSlow(t, what+", a word of text more", full(n, 4097, 1024), textBase, dataBase, api.Size)
			wantAsSlow(t, what+", a word of data more", full(n, 4096, 1025), textBase, dataBase, api.Size)
			wantAsSlow(t, what+", a word of data more, no text", full(n, 0, 1025), textBase, dataBase, api.Size)
			wantAsSlow(t, what+", a word of text more, no data", full(n, 4097, 0), textBase, dataBase, api.Size)
			wantAsSlow(t, what+", twice as much", full(n, 8192, 2048), textBase, dataBase, api.Size)
		}
	}
	wantAsSlow(t, "16 of the greatest", slices.Repeat(full(1, 4096, 1024), 16), 0, 0, api.Size)
}

// TestManyRelocations: as many as fit, by as many names as an object may have.
func TestManyRelocations(t *testing.T) {
	var l []api.Obj
	for i := range 16 {
		var all []line
		for j := range 256 {
			all = append(all, line{x: api.Ins{Op: api.Jal, Rd: 1}, kind: api.RelJump, name: "o" + strconv.Itoa((i+j)%16) + "_" + strconv.Itoa(j)})
		}
		o := made("", make([]uint64, 64), all...)
		for j := range 256 {
			o.Syms = append(o.Syms, api.Sym{Name: "o" + strconv.Itoa(i) + "_" + strconv.Itoa(j), Off: 4 * j, Out: true})
		}
		l = append(l, o)
	}
	text, data, e := place.Link(l, textBase, dataBase)
	if e != api.OK || len(text) != 4096 || len(data) != 1024 {
		t.Fatalf("P8.3: %d, %d, %d", len(text), len(data), e)
	}
	for i, w := range text {
		from, to := i/256, (i/256+i%256)%16
		if x, _ := ins.Decode(w); x != (api.Ins{Op: api.Jal, Rd: 1, Imm: int64(1024 * (to - from))}) {
			t.Fatalf("P8.3: word %d is %+v", i, x)
		}
	}
}

func TestAddress(t *testing.T) {
	l := []api.Obj{caller(), {}, callee()}
	s, _ := place.Spots(l, 0x1000, 0x17f0)
	for _, x := range []struct {
		obj, sym int
		want     uint64
	}{{0, 0, 0x1008}, {0, 1, 0x17f8}, {0, 2, 0x1044}, {2, 0, 0x1048}, {2, 1, 0x1050}, {2, 2, 0x1808}, {2, 3, 0x1810}, {2, 4, 0x104c}} {
		if at, ok := place.Address(l, s, api.Def{Obj: x.obj, Sym: x.sym}); !ok || at != x.want {
			t.Errorf("P8.1: Address of %d, %d is %x, %v; want %x", x.obj, x.sym, at, ok, x.want)
		}
	}
	// An address of 0 is one, too.
	nought := []api.Obj{made("f:0 #d:0", of(1), lines(1)...)}
	for i := range 2 {
		if at, ok := place.Address(nought, make([]api.Spot, 1), api.Def{Sym: i}); !ok || at != 0 {
			t.Errorf("P8.1: Address of %d is %x, %v; want 0", i, at, ok)
		}
	}
	// The Spots needn't be those that Spots tells.
	mine := []api.Spot{{Text: 5, Data: 1 << 40}, {}, {Text: math.MaxUint64 - 99, Data: 3}}
	for _, x := range []struct {
		obj, sym int
		want     uint64
	}{{0, 0, 13}, {0, 1, 1<<40 + 8}, {2, 0, math.MaxUint64 - 95}, {2, 2, 11}} {
		if at, ok := place.Address(l, mine, api.Def{Obj: x.obj, Sym: x.sym}); !ok || at != x.want {
			t.Errorf("P8.1: Address of %d, %d is %x, %v; want %x", x.obj, x.sym, at, ok, x.want)
		}
	}
}

func TestNoAddress(t *testing.T) {
	l := []api.Obj{caller(), {}, callee()}
	s, _ := place.Spots(l, textBase, dataBase)
	for _, i := range []int{math.MinInt, -1 << 32, -2, -1, 5, 6, 1 << 32, math.MaxInt} {
		for _, d := range []api.Def{{Obj: i}, {Sym: i}, {Obj: 2, Sym: i}, {Obj: i, Sym: i}, {Obj: 1, Sym: i}} {
			if at, ok := place.Address(l, s, d); ok || at != 0 {
				t.Errorf("P8.1: Address of %v is %x, %v; there is none", d, at, ok)
			}
		}
	}
	for _, d := range []api.Def{{Obj: 3}, {Obj: 1}, {Obj: 0, Sym: 3}, {Obj: 3, Sym: 3}} {
		if at, ok := place.Address(l, s, d); ok || at != 0 {
			t.Errorf("P8.1: Address of %v is %x, %v; there is none", d, at, ok)
		}
	}
	for n := range 8 {
		at, ok := place.Address(l, append(slices.Clone(s), make([]api.Spot, 5)...)[:n], api.Def{Sym: 1})
		if ok != (n == 3) || ok != (at == dataBase+8) || !ok && at != 0 {
			t.Errorf("P8.1: Address by %d Spots is %x, %v", n, at, ok)
		}
		if at, ok := place.Address(nil, make([]api.Spot, n), api.Def{}); ok || at != 0 {
			t.Errorf("P8.1: Address in no object is %x, %v", at, ok)
		}
	}
}

// TestAddressOfWhatMayNotBe: Address asks no more of a list than that there is such a Sym.
func TestAddressOfWhatMayNotBe(t *testing.T) {
	l := slices.Repeat([]api.Obj{{Text: []uint32{0}, Syms: []api.Sym{{Name: "F", Off: 3}, {Name: "F", Off: 1000, InData: true}}}}, 17)
	s := make([]api.Spot, 17)
	s[16] = api.Spot{Text: 100, Data: 200}
	a, ok := place.Address(l, s, api.Def{Obj: 16})
	b, is := place.Address(l, s, api.Def{Obj: 16, Sym: 1})
	if !ok || !is || a != 103 || b != 1200 {
		t.Errorf("P8.1: Address is %d, %v, and %d, %v", a, ok, b, is)
	}
}

// wantDone wants a relocation of an instruction to come to this number.
func wantDone(t *testing.T, what string, x api.Ins, kind int, p, v uint64, want int64) {
	t.Helper()
	w, e := place.Relocate(word(x), kind, p, v)
	y := x
	y.Imm = want
	if e != api.OK || w != word(y) {
		z, _ := ins.Decode(w)
		t.Errorf("P8.2: %s: %x, from %x: %+v, %d; want %+v", what, v, p, z, e, y)
	}
	if w, e := slowRelocate(word(x), kind, p, v); e != api.OK || w != word(y) {
		t.Errorf("%s: the test is wrong", what)
	}
}

// wantRange wants a relocation of an instruction not to fit.
func wantRange(t *testing.T, what string, x api.Ins, kind int, p, v uint64) {
	t.Helper()
	if w, e := place.Relocate(word(x), kind, p, v); e != api.Range || w != 0 {
		t.Errorf("P8.2: %s: %x, from %x: %x, %d; want Range", what, v, p, w, e)
	}
}

func TestRelocateHi(t *testing.T) {
	lui := api.Ins{Op: api.Lui, Rd: 5, Imm: 0x7000}
	for _, c := range []struct {
		v    uint64
		want int64
	}{
		{0, 0}, {1, 0}, {2047, 0}, {2048, 4096}, {2049, 4096}, {4095, 4096}, {4096, 4096}, {6143, 4096}, {6144, 8192},
		{0x12fff, 0x13000}, {0x127ff, 0x12000}, {0x12800, 0x13000}, {1 << 30, 1 << 30}, {1<<30 + 2048, 1<<30 + 4096},
		{0x7ffff7ff, 0x7ffff000}, {0x7fffefff, 0x7ffff000},
		{math.MaxUint64, 0}, {math.MaxUint64 - 2047, 0}, {math.MaxUint64 - 2048, -4096}, {math.MaxUint64 - 4095, -4096}, {math.MaxUint64 - 6143, -4096}, {math.MaxUint64 - 6144, -8192},
		{1<<64 - 1<<31, -1 << 31}, {1<<64 - 1<<31 - 2048, -1 << 31},
	} {
		for _, p := range []uint64{0, 4, 1 << 30, math.MaxUint64} { // It lies anywhere: RelHi asks nothing of that.
			wantDone(t, "RelHi", lui, api.RelHi, p, c.v, c.want)
		}
	}
	for _, v := range []uint64{0x7ffff800, 0x7fffffff, 1 << 31, 1<<32 - 1, 1 << 32, 1 << 33, 1 << 62, 1<<63 - 2049, 1<<63 - 2048, 1<<63 - 1, 1 << 63, 1<<63 + 2048, 1<<64 - 1<<31 - 2049, 1<<64 - 1<<32} {
		wantRange(t, "RelHi", lui, api.RelHi, 0, v)
		wantRange(t, "RelHi", lui, api.RelHi, v, v)
	}
}

func TestRelocateLo(t *testing.T) {
	for _, c := range []struct {
		v    uint64
		want int64
	}{
		{0, 0}, {1, 1}, {2047, 2047}, {2048, -2048}, {2049, -2047}, {4095, -1}, {4096, 0}, {4097, 1}, {0x12fff, -1},
		{1 << 31, 0}, {1<<31 + 5, 5}, {1<<40 - 3, -3}, {1 << 63, 0}, {math.MaxUint64, -1}, {math.MaxUint64 - 2047, -2048}, {math.MaxUint64 - 2048, 2047},
	} {
		for _, p := range []uint64{0, 8, 1 << 30, math.MaxUint64} {
			for _, x := range []api.Ins{
				{Op: api.Addi, Rd: 1, Rs1: 2, Imm: 99}, {Op: api.Lbu, Rd: 31, Rs1: 30, Imm: -1}, {Op: api.Ld, Rd: 3}, {Op: api.Sb, Rs1: 4, Rs2: 5, Imm: -2048}, {Op: api.Sd, Rs1: 31, Rs2: 31, Imm: 2047},
			} {
				wantDone(t, "RelLo", x, api.RelLo, p, c.v, c.want)
			}
		}
	}
}

// branches are all kinds of branches.
func branches() []api.Ins {
	return []api.Ins{{Op: api.Beq, Rs1: 1, Rs2: 2}, {Op: api.Bne, Rs1: 31}, {Op: api.Blt, Rs2: 31, Imm: -4096}, {Op: api.Bge, Imm: 8}, {Op: api.Bltu, Rs1: 3, Imm: 4094}, {Op: api.Bgeu}}
}

// TestRelocateFarthest: the farthest that jumps and branches lead, each way, and a step more.
func TestRelocateFarthest(t *testing.T) {
	for _, p := range []uint64{0, 4, 4096, 1 << 20, 1 << 30, 1 << 31, 1 << 63, math.MaxUint64 - 3} {
		for _, x := range branches() {
			for _, far := range []int64{0, 2, 4, -2, -4, 4092, 4094, -4094, -4096} {
				wantDone(t, "a branch", x, api.RelBranch, p, p+uint64(far), far)
			}
			for _, far := range []int64{4096, 4098, -4098, -4100, 8192, -8192, 1 << 20, 1 << 32, math.MinInt64, math.MaxInt64, 1, -1, 3, 4093, 4095, -4095, -4097} {
				wantRange(t, "a branch", x, api.RelBranch, p, p+uint64(far))
			}
		}
		for _, x := range []api.Ins{{Op: api.Jal}, {Op: api.Jal, Rd: 31, Imm: -2}} {
			for _, far := range []int64{0, 2, 4, -2, -4, 4096, -4098, 1048572, 1048574, -1048574, -1048576} {
				wantDone(t, "a jump", x, api.RelJump, p, p+uint64(far), far)
			}
			for _, far := range []int64{1048576, 1048578, -1048578, -1048580, 1 << 21, -1 << 21, 1 << 32, -1 << 32, math.MinInt64, math.MaxInt64, 1, -1, 5, 1048573, 1048575, -1048575, -1048577} {
				wantRange(t, "a jump", x, api.RelJump, p, p+uint64(far))
			}
		}
	}
}

// numbers are such as lie at bounds.
func numbers(r *rand.Rand) []uint64 {
	l := []uint64{0}
	for n := range 64 {
		l = append(l, 1<<n, 1<<n-1, -(1 << n), 1<<n+2048, 1<<n-2049, 2048-1<<n)
	}
	for range 40 {
		l = append(l, r.Uint64()>>r.Intn(64))
	}
	return l
}

// TestRelocateAll: each kind, and some that there are none of, of each operation.
func TestRelocateAll(t *testing.T) {
	r := rand.New(rand.NewSource(8))
	codes := map[api.Code]int{}
	for op := api.Add; op <= api.Ebreak; op++ {
		for _, kind := range []int{math.MinInt, -1, api.RelHi, api.RelLo, api.RelJump, api.RelBranch, 4, 256, 1 << 32, math.MaxInt} {
			w := word(api.Ins{Op: op})
			for i, v := range numbers(r) {
				p := v + uint64(r.Int63n(8192)) - 4096
				if i%2 == 0 {
					p = r.Uint64() >> r.Intn(64)
				}
				want, code := slowRelocate(w, kind, p, v)
				if got, e := place.Relocate(w, kind, p, v); got != want || e != code {
					t.Fatalf("P8.2: the operation %d, the kind %d, %x from %x: %x, %d; want %x, %d", op, kind, v, p, got, e, want, code)
				}
				codes[code]++
			}
		}
	}
	if codes[api.OK] < 500 || codes[api.Range] < 500 || codes[api.Arg] < 500 {
		t.Errorf("%v: the test is wrong", codes)
	}
}

// TestRelocateNoInstruction: words that are none, of each kind, whether the number would fit or not.
func TestRelocateNoInstruction(t *testing.T) {
	r := rand.New(rand.NewSource(9))
	words := []uint32{0, 1, 0xffffffff, 0x00100073 ^ 1<<20, 0x73, 0x7f, 0x37 ^ 2, 0x3063, 0x2063, 0x6067, 0x1023 | 7}
	for len(words) < 3000 {
		w := r.Uint32()
		if r.Intn(2) == 0 {
			w = w&^0x7f | []uint32{0x13, 0x03, 0x23, 0x63, 0x67, 0x33}[r.Intn(6)]
		}
		if _, e := ins.Decode(w); e != api.OK {
			words = append(words, w)
		}
	}
	for _, w := range words {
		for kind := -1; kind < 5; kind++ {
			for _, v := range []uint64{0, 8, 1 << 40, 1} {
				if got, e := place.Relocate(w, kind, 0, v); got != 0 || e != api.Arg {
					t.Fatalf("P8.2: the word %x, the kind %d: %x, %d; want Arg", w, kind, got, e)
				}
			}
		}
	}
}

// wrong is a list, bases, and what Link answers.
type wrong struct {
	what       string
	l          []api.Obj
	text, data uint64
	code       api.Code
}

// Lists of which each is wrong in one thing, or in it and in all that is told behind it.
func wrongList(code api.Code, others bool) []api.Obj {
	far := made("#far:0 +out:4", of(1), line{x: api.Ins{Op: api.Beq}, kind: api.RelBranch, name: "far"})
	fine := made("#far:0 +mine:0", of(1), line{x: api.Ins{Op: api.Lui}, kind: api.RelHi, name: "far"})
	nothing := made("", nil, line{x: api.Ins{Op: api.Jal}, kind: api.RelJump, name: "nowhere"})
	l := []api.Obj{fine}
	if code == api.Range || others {
		l = append(l, far)
	}
	if code == api.Size || others && code < api.Size || others && code == api.Twice || others && code == api.Undefined {
		l = append(l, full(2, 4097, 1)...)
	}
	if code == api.Undefined || others && (code == api.Arg || code == api.Twice) {
		l = append(l, nothing)
	}
	if code == api.Twice || others && code == api.Arg {
		l = append(l, fine)
	}
	if code == api.Arg {
		l = append(l, api.Obj{Text: []uint32{0}})
	}
	return l
}

// wrongs are lists, each with the code that is named first.
func wrongs() []wrong {
	var all []wrong
	for _, code := range []api.Code{api.Arg, api.Twice, api.Undefined, api.Size, api.Range} {
		name := "the code " + strconv.Itoa(int(code))
		all = append(all,
			wrong{name + " alone", wrongList(code, false), textBase, 1 << 20, code},
			wrong{name + " and those behind it", wrongList(code, true), textBase, 1 << 20, code})
		if code != api.Range {
			all = append(all,
				wrong{name + " and a text's base", wrongList(code, true), textBase + 4, 1 << 20, code},
				wrong{name + " and a data's base", wrongList(code, true), textBase, highest + 8, code},
				wrong{name + " and both", wrongList(code, false), 1, math.MaxUint64, code})
		}
	}
	for _, base := range []uint64{1, 2, 4, 7, 9, 12, textBase + 4, highest - 1, highest - 4, highest + 1, highest + 4, highest + 8, highest + 4096, 1 << 31, 1 << 32, 1 << 62, 1 << 63, 1<<63 + 1<<30, math.MaxUint64 - 7, math.MaxUint64} {
		for _, l := range [][]api.Obj{nil, {}, {{}}, {callee()}, {caller(), callee()}, wrongList(api.Range, false)} {
			what := "a base of " + strconv.FormatUint(base, 16)
			all = append(all,
				wrong{what + ", the text's", l, base, dataBase, api.Overlap},
				wrong{what + ", the data's", l, textBase, base, api.Overlap},
				wrong{what + ", both", l, base, base, api.Overlap})
		}
	}
	late := slices.Repeat([]api.Obj{made("+f:0", nil, lines(1)...)}, 2)
	return append(all,
		wrong{"17 objects", make([]api.Obj, 17), 0, 0, api.Arg},
		wrong{"17 objects that clash", slices.Repeat([]api.Obj{caller()}, 17), 4, 4, api.Arg},
		wrong{"100000 objects", make([]api.Obj, 100000), 0, 0, api.Arg},
		wrong{"too great an object", full(1, 4097, 0), 0, 0, api.Arg},
		wrong{"too great an object's data", full(1, 0, 1025), 0, 0, api.Arg},
		wrong{"a name beyond the text", []api.Obj{made("f:4", nil)}, 0, 0, api.Arg},
		wrong{"a kind of an instruction that it may not be of", []api.Obj{made("f:0", nil, line{x: api.Ins{Op: api.Lui}, kind: api.RelJump, name: "f"})}, 0, 0, api.Arg},
		wrong{"a kind that there is none of", []api.Obj{made("f:0", nil, line{x: api.Ins{Op: api.Lui}, kind: 4, name: "f"})}, 0, 0, api.Arg},
		wrong{"two names", late, 0, 0, api.Twice},
		wrong{"the callee missing", []api.Obj{caller()}, 0, 0, api.Undefined})
}

func TestWhatIsWrong(t *testing.T) {
	for _, x := range wrongs() {
		wantAsSlow(t, x.what, x.l, x.text, x.data, x.code)
		text, data, e := place.Link(x.l, x.text, x.data)
		if e != x.code || len(text) != 0 || len(data) != 0 {
			t.Errorf("P8.3: %s: %s, %s, %d; want %d", x.what, short(text), short(data), e, x.code)
		}
		s, e := place.Spots(x.l, x.text, x.data)
		if x.code != api.Range && (e != x.code || len(s) != 0) {
			t.Errorf("P8.1: %s: %s, %d; want %d", x.what, short(s), e, x.code)
		}
	}
}

// TestLinkFarthest: a jump to the data, and a branch in the text, as far as they may lead, each way, and a step more.
func TestLinkFarthest(t *testing.T) {
	jump := func(add int64) []api.Obj {
		return []api.Obj{made("#d:0", of(1), line{x: api.Ins{Op: api.Jal}, kind: api.RelJump, name: "d", add: add})}
	}
	for _, x := range []struct {
		text, data uint64
		add        int64
		code       api.Code
	}{
		{0, 1 << 20, 0, api.Range}, {0, 1<<20 - 8, 0, api.OK}, {0, 1 << 20, -2, api.OK}, {0, 1 << 20, -1, api.Range}, {0, 1<<20 - 8, 6, api.OK}, {0, 1<<20 - 8, 8, api.Range}, {0, 1<<20 - 8, 7, api.Range},
		{1 << 20, 0, 0, api.OK}, {1 << 20, 0, -2, api.Range}, {1 << 20, 0, -1, api.Range}, {1<<20 + 8, 0, 0, api.Range}, {1<<20 + 8, 0, 8, api.OK}, {1<<20 + 8, 0, 6, api.Range},
		{0, 0, -65536, api.OK}, {0, 0, 65536, api.OK}, {highest, 0, 65536, api.Range}, {0, highest, -65536, api.Range}, {highest, highest, 65536, api.OK},
	} {
		wantAsSlow(t, "a jump "+short(x), jump(x.add), x.text, x.data, x.code)
	}
	for _, x := range []struct {
		words int
		add   int64
		code  api.Code
	}{{1022, 0, api.OK}, {1023, 0, api.Range}, {1022, 2, api.OK}, {1022, 4, api.Range}, {1022, 1, api.Range}, {1023, -2, api.OK}, {1023, -4, api.OK}, {4000, 0, api.Range}} {
		from := made("", nil, line{x: api.Ins{Op: api.Beq}, kind: api.RelBranch, name: "f", add: x.add})
		wantAsSlow(t, "a branch forward "+short(x), []api.Obj{from, made("", nil, lines(x.words)...), made("+f:0", nil, lines(1)...)}, textBase, dataBase, x.code)
	}
	for _, x := range []struct {
		words int
		add   int64
		code  api.Code
	}{{1024, 0, api.OK}, {1025, 0, api.Range}, {1024, -2, api.Range}, {1025, 4, api.OK}, {1025, 2, api.Range}, {1024, 1, api.Range}, {4000, 0, api.Range}} {
		from := made("", nil, line{x: api.Ins{Op: api.Beq}, kind: api.RelBranch, name: "f", add: x.add})
		wantAsSlow(t, "a branch back "+short(x), []api.Obj{made("+f:0", nil, lines(x.words)...), from}, textBase, dataBase, x.code)
	}
}

// TestTheLastOfManyDoesNotFit: nothing of what was done ahead of it is told.
func TestTheLastOfManyDoesNotFit(t *testing.T) {
	fine := line{x: api.Ins{Op: api.Ld}, kind: api.RelLo, name: "d"}
	far := line{x: api.Ins{Op: api.Jal}, kind: api.RelJump, name: "d"}
	for at := range 9 {
		all := slices.Repeat([]line{fine}, 9)
		all[at] = far
		l := []api.Obj{made("+#d:0", of(1), lines(2)...), made("", nil, all...)}
		wantAsSlow(t, "a jump at "+strconv.Itoa(at), l, 0, 1<<20, api.OK)
		wantAsSlow(t, "a jump too far at "+strconv.Itoa(at), l, 0, 1<<20+4096, api.Range)
	}
}

func TestListsAtRandom(t *testing.T) {
	r := rand.New(rand.NewSource(8))
	codes := map[api.Code]int{}
	for i := range 4000 {
		l := someList(r)
		text, data := 8*uint64(r.Intn(1<<r.Intn(17))), 8*uint64(r.Intn(1<<r.Intn(17)))
		switch r.Intn(12) {
		case 0:
			text, data = highest, highest
		case 1:
			text += uint64(r.Intn(8))
		case 2:
			data += 1 << (24 + r.Intn(40))
		}
		_, _, code := slowLink(l, text, data)
		codes[code]++
		wantAsSlow(t, "list "+strconv.Itoa(i), l, text, data, code)
		if t.Failed() {
			t.Fatalf("the list is %+v", l)
		}
	}
	for _, c := range []api.Code{api.OK, api.Range, api.Overlap, api.Undefined, api.Twice} {
		if codes[c] < 50 {
			t.Errorf("%v: the test is wrong", codes)
		}
	}
}

// roomy are two objects, their lists with spare room that holds something.
func roomy() []api.Obj {
	l := []api.Obj{caller(), callee(), made("+spare:0", of(1), lines(1)...)}
	for i, o := range l {
		o.Text = append(o.Text, 77)[:len(o.Text)]
		o.Data = append(o.Data, 77)[:len(o.Data)]
		o.Syms = append(o.Syms, api.Sym{Name: "spare"})[:len(o.Syms)]
		o.Rels = append(o.Rels, api.Rel{Name: "spare"})[:len(o.Rels)]
		o.Entries = append(o.Entries, api.Entry{Name: "spare"})[:len(o.Entries)]
		l[i] = o
	}
	return l[:2]
}

// wholeOf are objects with the spare room of their list, and of theirs.
func wholeOf(l []api.Obj) []api.Obj {
	var all []api.Obj
	for _, o := range l[:len(l)+1] {
		o.Text, o.Data, o.Syms, o.Rels, o.Entries = o.Text[:len(o.Text)+1], o.Data[:len(o.Data)+1], o.Syms[:len(o.Syms)+1], o.Rels[:len(o.Rels)+1], o.Entries[:len(o.Entries)+1]
		all = append(all, o)
	}
	return all
}

// TestListsAreNeitherChangedNorKept: rule 3 of the document.
func TestListsAreNeitherChangedNorKept(t *testing.T) {
	l := roomy()
	wantText, wantData, _ := slowLink(roomy(), textBase, dataBase)
	wantSpots, _ := slowSpots(roomy(), textBase, dataBase)
	place.Sizes(l)
	spots, _ := place.Spots(l, textBase, dataBase)
	room := append(slices.Clone(spots), api.Spot{Text: 77})
	place.Address(l, room[:2], api.Def{})
	place.Link(l, 0, highest) // what doesn't fit changes nothing either
	text, data, _ := place.Link(l, textBase, dataBase)
	if !slices.EqualFunc(wholeOf(l), wholeOf(roomy()), obj.Same) || !slices.Equal(room, append(slices.Clone(wantSpots), api.Spot{Text: 77})) {
		t.Error("P8.3: a list that was handed in is changed")
	}
	for _, o := range wholeOf(l) {
		clear(o.Text)
		clear(o.Data)
		clear(o.Syms)
		clear(o.Rels)
		clear(o.Entries)
	}
	clear(l)
	if !slices.Equal(text, wantText) || !slices.Equal(data, wantData) || !slices.Equal(spots, wantSpots) {
		t.Error("P8.3: a list that was handed in is kept")
	}
	l = roomy()
	a, b, _ := place.Link(l, textBase, dataBase)
	s, _ := place.Spots(l, textBase, dataBase)
	clear(a[:cap(a)])
	clear(b[:cap(b)])
	clear(s[:cap(s)])
	if !slices.EqualFunc(wholeOf(l), wholeOf(roomy()), obj.Same) {
		t.Error("P8.3: an answer shares its memory with what was handed in")
	}
	wantAsSlow(t, "behind that", l, textBase, dataBase, api.OK)
}

// TestCallsHangOnNothingElse: a wrong call ahead of it changes no later one.
func TestCallsHangOnNothingElse(t *testing.T) {
	l := []api.Obj{caller(), callee()}
	for _, x := range wrongs() {
		place.Spots(x.l, x.text, x.data)
		place.Link(x.l, x.text, x.data)
		place.Relocate(0, int(x.text%8), x.text, x.data)
		wantAsSlow(t, "behind "+x.what, l, textBase, dataBase, api.OK)
		wantDone(t, "behind "+x.what, api.Ins{Op: api.Jal}, api.RelJump, 4, 16, 12)
	}
}
