package obj_test

import (
	"bytes"
	"fmt"
	"math"
	"math/rand"
	"slices"
	"strconv"
	"strings"
	"testing"

	"caponier/api"
	"caponier/ins"
	"caponier/obj"
)

const (
	ebreak  = 0x00100073
	jal     = 0x000000ef                 // Jal 1, 0
	longest = "abcdefghijklmnopqrstuv_9" // 24 characters
)

// word is an instruction's.
func word(x api.Ins) uint32 {
	w, code := ins.Encode(x)
	if code != api.OK {
		panic("no instruction: " + strconv.Itoa(x.Op))
	}
	return w
}

// wordOf is the word of an instruction of that operation.
func wordOf(op int) uint32 {
	x := api.Ins{Op: op}
	if f := ins.Form(op); f == "R" || f == "I" || f == "U" || f == "J" {
		x.Rd = 7
	}
	if f := ins.Form(op); f == "R" || f == "I" || f == "S" || f == "B" {
		x.Rs1 = 11
	}
	return word(x)
}

// full is an object that may be, with something of every kind.
func full() api.Obj {
	var o api.Obj
	for _, op := range []int{api.Lui, api.Addi, api.Lbu, api.Ld, api.Sb, api.Sd, api.Jal, api.Beq, api.Bne, api.Blt, api.Bge, api.Bltu, api.Bgeu, api.Ebreak, api.Mul, api.Jalr} {
		o.Text = append(o.Text, wordOf(op))
	}
	o.Data = []uint64{0, 0x0102030405060708, math.MaxUint64}
	o.Syms = []api.Sym{
		{Name: "f", Off: 0, Out: true},
		{Name: "g_2", Off: 8, Out: true},
		{Name: "inner", Off: 60},
		{Name: "end_of_text", Off: 64, Out: true},
		{Name: longest, InData: true, Off: 8, Out: true},
		{Name: "_", InData: true, Off: 16},
		{Name: "e0", InData: true, Off: 24},
	}
	o.Rels = []api.Rel{
		{At: 0, Kind: api.RelHi, Name: "_", Add: 65536},
		{At: 4, Kind: api.RelLo, Name: "_", Add: -65536},
		{At: 8, Kind: api.RelLo, Name: longest, Add: 1},
		{At: 12, Kind: api.RelLo, Name: "elsewhere", Add: -1},
		{At: 16, Kind: api.RelLo, Name: "x", Add: 256},
		{At: 20, Kind: api.RelLo, Name: "f", Add: 0},
		{At: 48, Kind: api.RelBranch, Name: "f", Add: 4},
		{At: 28, Kind: api.RelBranch, Name: "g_2", Add: 0},
		{At: 32, Kind: api.RelBranch, Name: "f", Add: 0},
		{At: 36, Kind: api.RelBranch, Name: "f", Add: 0},
		{At: 40, Kind: api.RelBranch, Name: "f", Add: 0},
		{At: 44, Kind: api.RelBranch, Name: "f", Add: 0},
		{At: 24, Kind: api.RelJump, Name: "inner", Add: -4},
	}
	o.Entries = []api.Entry{
		{Name: "g_2", Params: []int{0, 64, 1, 63, 0, 64}},
		{Name: "f"},
		{Name: "end_of_text", Params: []int{5}},
	}
	return o
}

// many is an object with as many of everything as may be.
func many() api.Obj {
	var o api.Obj
	for range 4096 {
		o.Text = append(o.Text, jal)
	}
	for i := range 1024 {
		o.Data = append(o.Data, uint64(i)*0x0101010101010101)
		o.Rels = append(o.Rels, api.Rel{At: 16*i + 12, Kind: api.RelJump, Name: "other" + strconv.Itoa(i), Add: int64(i)})
	}
	for i := range 256 {
		o.Syms = append(o.Syms, api.Sym{Name: "s" + strconv.Itoa(i), Off: 4096 + 4*i, Out: true})
	}
	for i := range 64 {
		o.Entries = append(o.Entries, api.Entry{Name: "s" + strconv.Itoa(255-i), Params: []int{i, i, i, i, i, 64}})
	}
	return o
}

// short is something told in few characters, since some objects are great.
func short(x any) string {
	s := fmt.Sprint(x)
	if len(s) > 400 {
		return s[:400] + ".."
	}
	return s
}

// wantMay wants an object to be one that may be, and to be encoded and decoded again.
func wantMay(t *testing.T, what string, o api.Obj) {
	t.Helper()
	if !obj.May(o) {
		t.Errorf("P6.1: %s: it may be", what)
	}
	b, e := obj.Encode(o)
	if e != api.OK || !bytes.Equal(b, slowEncode(o)) {
		t.Errorf("P6.1: %s: encoded to %s, %d", what, short(b), e)
	}
	p, e := obj.Decode(slowEncode(o))
	if e != api.OK || !slowSame(o, p) {
		t.Errorf("P6.2: %s: decoded to %s, %d", what, short(p), e)
	}
	if c, e := obj.Encode(p); e != api.OK || !bytes.Equal(b, c) {
		t.Errorf("P6.3: %s: decoded, it is encoded to %s, %d; not %s", what, short(c), e, short(b))
	}
	if !obj.Same(o, p) || !obj.Same(p, o) {
		t.Errorf("P6.3: %s: decoded, it isn't the same", what)
	}
}

// wantNone wants an object to be none that may be, nor its bytes such a one's, where it has any.
func wantNone(t *testing.T, what string, o api.Obj) {
	t.Helper()
	if obj.May(o) {
		t.Errorf("P6.1: %s: it may not be", what)
	}
	if b, e := obj.Encode(o); e != api.Arg || b != nil {
		t.Errorf("P6.1: %s: encoded to %s, %d; want nothing, Arg", what, short(b), e)
	}
	wantMalformed(t, what, slowEncode(o))
}

func wantMalformed(t *testing.T, what string, b []byte) {
	t.Helper()
	p, e := obj.Decode(b)
	if e != api.Malformed || p.Text != nil || p.Data != nil || p.Syms != nil || p.Rels != nil || p.Entries != nil {
		t.Errorf("P6.2: %s: decoded to %s, %d; want nothing, Malformed", what, short(p), e)
	}
}

func TestNames(t *testing.T) {
	right := []string{"a", "z", "_", "f", "a0", "z9", "_0", "__", "_9_", "a_b", "abcdefghijklmnopqrstuvwx", "yz_0123456789", longest, strings.Repeat("_", 24), "a" + strings.Repeat("0", 23)}
	for _, s := range right {
		if !obj.Name(s) {
			t.Errorf("P6.1: %q is a name", s)
		}
	}
	wrong := []string{"", "0", "9", "0a", "9_", "A", "Z", "fA", "a b", " a", "a ", "a\n", "\na", "a\x00", "\x00", "a-b", "a.b", "a`", "a{", "a/", "a:", "a@", "a[", "a^", "\u00e9", "a\u00e9", "\u017f", "\u0661", "a\u0661", "\xff", "a\xff", "a\x80", "(", "a)", ";", longest + "a", strings.Repeat("a", 25), strings.Repeat("a", 256), strings.Repeat("a", 257), strings.Repeat("a", 1<<20), "0" + strings.Repeat("a", 23), strings.Repeat("a", 23) + "A"}
	for _, s := range wrong {
		if obj.Name(s) {
			t.Errorf("P6.1: %q is no name", s)
		}
	}
}

func TestNamesOfEachCharacter(t *testing.T) {
	for c := range 256 {
		for n := range 27 {
			for at := range n {
				b := bytes.Repeat([]byte{'k'}, n)
				b[at] = byte(c)
				if s := string(b); obj.Name(s) != slowNames.MatchString(s) {
					t.Errorf("P6.1: Name(%q) is %v", s, obj.Name(s))
				}
			}
		}
	}
}

func TestAnEmptyObject(t *testing.T) {
	want := []byte{'O', 'B', 'J', '1', 0, 0, 0, 0, 0, 0, 0, 0, 0, 0}
	for _, o := range []api.Obj{{}, {Text: []uint32{}, Data: []uint64{}, Syms: []api.Sym{}, Rels: []api.Rel{}, Entries: []api.Entry{}}, {Text: make([]uint32, 0, 4), Entries: make([]api.Entry, 0, 4)}} {
		wantMay(t, "an empty object", o)
		if b, e := obj.Encode(o); e != api.OK || !bytes.Equal(b, want) {
			t.Errorf("P6.1: an empty object is encoded to %v, %d", b, e)
		}
		if !obj.Same(o, api.Obj{}) || !obj.Same(api.Obj{}, o) {
			t.Errorf("P6.1: lists that are nil and lists that are empty are alike")
		}
	}
}

func TestBytes(t *testing.T) {
	o := api.Obj{
		Text:    []uint32{word(api.Ins{Op: api.Lui, Rd: 5, Imm: 0x12345000}), ebreak, word(api.Ins{Op: api.Addi, Rd: 1, Imm: -1})},
		Data:    []uint64{0x1122334455667788, 1},
		Syms:    []api.Sym{{Name: "f"}, {Name: "out", Off: 12, Out: true}, {Name: "d", InData: true, Off: 16}, {Name: "both_1", InData: true, Out: true, Off: 8}},
		Rels:    []api.Rel{{At: 8, Kind: api.RelLo, Name: "d", Add: -2}, {At: 0, Kind: api.RelHi, Name: "zz", Add: 65536}},
		Entries: []api.Entry{{Name: "out", Params: []int{0, 64, 3}}},
	}
	want := []byte{
		'O', 'B', 'J', '1', 3, 0, 2, 0, 4, 0, 2, 0, 1, 0,
		0xb7, 0x52, 0x34, 0x12, 0x73, 0, 0x10, 0, 0x93, 0, 0xf0, 0xff,
		0x88, 0x77, 0x66, 0x55, 0x44, 0x33, 0x22, 0x11, 1, 0, 0, 0, 0, 0, 0, 0,
		1, 'f', 0, 0, 0, 0, 0,
		3, 'o', 'u', 't', 2, 12, 0, 0, 0,
		1, 'd', 1, 16, 0, 0, 0,
		6, 'b', 'o', 't', 'h', '_', '1', 3, 8, 0, 0, 0,
		8, 0, 0, 0, 1, 1, 'd', 0xfe, 0xff, 0xff, 0xff, 0xff, 0xff, 0xff, 0xff,
		0, 0, 0, 0, 0, 2, 'z', 'z', 0, 0, 1, 0, 0, 0, 0, 0,
		3, 'o', 'u', 't', 3, 0, 64, 3,
	}
	if b, e := obj.Encode(o); e != api.OK || !bytes.Equal(b, want) {
		t.Errorf("P6.1: encoded to\n%v, %d, want\n%v", b, e, want)
	}
	if p, e := obj.Decode(want); e != api.OK || !slowSame(o, p) {
		t.Errorf("P6.2: decoded to %v, %d", p, e)
	}
	wantMay(t, "an object", o)
	wantMay(t, "an object with something of every kind", full())
}

func TestCountsOfTwoBytes(t *testing.T) {
	b, e := obj.Encode(many())
	if want := []byte{'O', 'B', 'J', '1', 0, 16, 0, 4, 0, 1, 0, 4, 64, 0}; e != api.OK || !bytes.HasPrefix(b, want) {
		t.Errorf("P6.1: the greatest object is encoded to %v.., %d", b[:min(len(b), 14)], e)
	}
}

// edge is a change of the full object, or of another, and what it changes.
type edge struct {
	what   string
	change func(o *api.Obj)
}

func TestEdgesThatMayBe(t *testing.T) {
	for _, x := range []edge{
		{"a name of 24 characters", func(o *api.Obj) { o.Syms[2].Name = "a" + strings.Repeat("_9", 11) + "z" }},
		{"Off 0 in the text", func(o *api.Obj) { o.Syms[2].Off = 0 }},
		{"Off ahead of the text's end", func(o *api.Obj) { o.Syms[2].Off = 60 }},
		{"Off at the text's end", func(o *api.Obj) { o.Syms[2].Off = 64 }},
		{"an odd multiple of 4 in the text", func(o *api.Obj) { o.Syms[2].Off = 20 }},
		{"Off 0 in the data", func(o *api.Obj) { o.Syms[5].Off = 0 }},
		{"Off ahead of the data's end", func(o *api.Obj) { o.Syms[5].Off = 16 }},
		{"Off at the data's end", func(o *api.Obj) { o.Syms[5].Off = 24 }},
		{"Syms of one Off", func(o *api.Obj) { o.Syms[0].Off, o.Syms[1].Off, o.Syms[2].Off = 4, 4, 4 }},
		{"Add at its least", func(o *api.Obj) { o.Rels[2].Add = -65536 }},
		{"Add at its greatest", func(o *api.Obj) { o.Rels[2].Add = 65536 }},
		{"relocations of one name", func(o *api.Obj) { o.Rels[0].Name, o.Rels[6].Name = "f", "f" }},
		{"a relocation by a name that the object doesn't have", func(o *api.Obj) { o.Rels[0].Name = "nowhere" }},
		{"relocations falling", func(o *api.Obj) { slices.Reverse(o.Rels) }},
		{"an entry of six parameters of 0", func(o *api.Obj) { o.Entries[0].Params = make([]int, 6) }},
		{"an entry of six parameters of 64", func(o *api.Obj) { o.Entries[0].Params = []int{64, 64, 64, 64, 64, 64} }},
		{"an entry of no parameters, empty", func(o *api.Obj) { o.Entries[0].Params = []int{} }},
		{"an entry at the text's end", func(o *api.Obj) { o.Entries[0].Name, o.Entries[2].Name = "end_of_text", "g_2" }},
		{"entries that are less than what is Out", func(o *api.Obj) { o.Entries = o.Entries[1:2] }},
		{"no entries", func(o *api.Obj) { o.Entries = nil }},
		{"no relocations", func(o *api.Obj) { o.Rels = nil }},
		{"no names", func(o *api.Obj) { o.Syms, o.Entries = nil, nil }},
		{"no data", func(o *api.Obj) { o.Data, o.Syms = nil, o.Syms[:4] }},
		{"no text", func(o *api.Obj) { o.Text, o.Syms, o.Rels, o.Entries = nil, o.Syms[4:], nil, nil }},
		{"a name at the end of a text of none", func(o *api.Obj) {
			*o = api.Obj{Syms: []api.Sym{{Name: "f", Out: true}}, Entries: []api.Entry{{Name: "f"}}}
		}},
		{"a name at the end of data of none", func(o *api.Obj) { *o = api.Obj{Syms: []api.Sym{{Name: "f", Out: true, InData: true}}} }},
		{"a text alone", func(o *api.Obj) { *o = api.Obj{Text: []uint32{ebreak}} }},
		{"data alone", func(o *api.Obj) { *o = api.Obj{Data: []uint64{1 << 63}} }},
		{"an entry whose name relocations have too", func(o *api.Obj) { o.Rels[0].Name = o.Entries[0].Name }},
	} {
		o := full()
		x.change(&o)
		wantMay(t, x.what, o)
	}
}

func TestAsManyAsMayBe(t *testing.T) {
	wantMay(t, "the greatest object", many())
	for _, x := range []edge{
		{"words of text", func(o *api.Obj) { o.Text = append(o.Text, jal) }},
		{"words of data", func(o *api.Obj) { o.Data = append(o.Data, 0) }},
		{"names", func(o *api.Obj) { o.Syms = append(o.Syms, api.Sym{Name: "more"}) }},
		{"relocations", func(o *api.Obj) { o.Rels = append(o.Rels, api.Rel{Kind: api.RelJump, Name: "more"}) }},
		{"entries", func(o *api.Obj) { o.Entries = append(o.Entries, api.Entry{Name: "s0"}) }},
	} {
		o := many()
		x.change(&o)
		wantNone(t, "one more than may be of the "+x.what, o)
	}
	for _, x := range []edge{
		{"words of text", func(o *api.Obj) { o.Text, o.Rels[1023].At = o.Text[1:], 0 }},
		{"words of data", func(o *api.Obj) { o.Data = o.Data[1:] }},
		{"names", func(o *api.Obj) { o.Syms = o.Syms[1:] }},
		{"relocations", func(o *api.Obj) { o.Rels = o.Rels[1:] }},
		{"entries", func(o *api.Obj) { o.Entries = o.Entries[1:] }},
	} {
		o := many()
		x.change(&o)
		wantMay(t, "one less than may be of the "+x.what, o)
	}
}

func TestFarMoreThanMayBe(t *testing.T) {
	for _, n := range []int{65535, 65536, 65537, 1 << 20} {
		for _, o := range []api.Obj{{Text: slices.Repeat([]uint32{jal}, n)}, {Data: make([]uint64, n)}, {Syms: make([]api.Sym, n)}, {Rels: make([]api.Rel, n)}, {Entries: make([]api.Entry, n)}} {
			if b, e := obj.Encode(o); obj.May(o) || b != nil || e != api.Arg {
				t.Errorf("P6.1: an object of %d may be, or is encoded: %d", n, e)
			}
		}
	}
}

// wrongObjects are changes of the full object behind which it may not be, each by one thing alone.
func wrongObjects() []edge {
	l := []edge{
		{"two Syms of one name", func(o *api.Obj) { o.Syms[2].Name = "f" }},
		{"two Syms of one name, the last ones", func(o *api.Obj) { o.Syms[6].Name = "_" }},
		{"two Syms of one name, one in the data", func(o *api.Obj) { o.Syms[5].Name = "inner" }},
		{"two Syms that are alike", func(o *api.Obj) { o.Syms = append(o.Syms, o.Syms[2]) }},
		{"two relocations at one place", func(o *api.Obj) { o.Rels[12] = api.Rel{At: 0, Kind: api.RelHi, Name: "other", Add: 3} }},
		{"two relocations that are alike", func(o *api.Obj) { o.Rels[1] = o.Rels[0] }},
		{"an entry's name that is none's", func(o *api.Obj) { o.Entries[1].Name = "nowhere" }},
		{"an entry's name that is a relocation's", func(o *api.Obj) { o.Entries[1].Name = "elsewhere" }},
		{"an entry without a name", func(o *api.Obj) { o.Entries[1].Name = "" }},
		{"an entry's name in the data", func(o *api.Obj) { o.Entries[1].Name = "_" }},
		{"an entry's name in the data that is Out", func(o *api.Obj) { o.Entries[1].Name = longest }},
		{"an entry's name that isn't Out", func(o *api.Obj) { o.Entries[1].Name = "inner" }},
		{"an entry's name twice", func(o *api.Obj) { o.Entries[2].Name = "g_2" }},
		{"an entry's name twice, one behind the other", func(o *api.Obj) { o.Entries[1].Name = "g_2" }},
		{"an entry twice", func(o *api.Obj) { o.Entries = append(o.Entries, o.Entries[0]) }},
		{"seven parameters", func(o *api.Obj) { o.Entries[0].Params = make([]int, 7) }},
		{"255 parameters", func(o *api.Obj) { o.Entries[1].Params = make([]int, 255) }},
		{"no text any more", func(o *api.Obj) { o.Text, o.Rels = nil, nil }},
		{"no data any more", func(o *api.Obj) { o.Data = nil }},
		{"no names any more", func(o *api.Obj) { o.Syms = nil }},
	}
	for _, w := range []uint32{0, 1, math.MaxUint32, 0x00000073, 0x00100072, 0x04001013, 0x0000007f} {
		for _, i := range []int{0, 13, 14, 15} {
			what := "a word " + strconv.FormatUint(uint64(w), 16) + " of the text at " + strconv.Itoa(i)
			l = append(l, edge{what, func(o *api.Obj) { o.Text[i] = w }})
		}
	}
	return slices.Concat(l, wrongNames(), wrongOffs(), wrongRels(), wrongParams())
}

func wrongNames() []edge {
	var l []edge
	for _, s := range []string{"", "0", "9f", "F", "fOo", "a-b", "a b", "a\x00", "\xff", "\u00e9", longest + "a", strings.Repeat("a", 255)} {
		for _, i := range []int{2, 4, 6} {
			l = append(l, edge{"Sym " + strconv.Itoa(i) + " of the name " + s, func(o *api.Obj) { o.Syms[i].Name = s }})
		}
		for _, i := range []int{0, 6, 12} {
			l = append(l, edge{"Rel " + strconv.Itoa(i) + " of the name " + s, func(o *api.Obj) { o.Rels[i].Name = s }})
		}
		// A name that is wrong, though Sym and entry agree on it.
		l = append(l, edge{"Sym and Entry of the name " + s, func(o *api.Obj) { o.Syms[1].Name, o.Entries[0].Name, o.Rels[7].Name = s, s, "f" }})
	}
	return l
}

func wrongOffs() []edge {
	var l []edge
	for _, off := range []int{-8, -4, -1, 1, 2, 3, 5, 6, 7, 62, 63, 65, 66, 68, 72, 4096, 1 << 20, 1<<31 - 4, 1 << 31, 1<<32 - 4} {
		for _, i := range []int{0, 2, 3} {
			l = append(l, edge{"Off " + strconv.Itoa(off) + " in the text", func(o *api.Obj) { o.Syms[i].Off = off }})
		}
	}
	for _, off := range []int{-8, -4, -1, 1, 2, 4, 7, 9, 12, 20, 23, 25, 28, 32, 64, 1 << 20, 1<<31 - 8, 1 << 31, 1<<32 - 8} {
		for _, i := range []int{4, 5, 6} {
			l = append(l, edge{"Off " + strconv.Itoa(off) + " in the data", func(o *api.Obj) { o.Syms[i].Off = off }})
		}
	}
	return l
}

func wrongRels() []edge {
	l := []edge{
		{"a relocation of an Ebreak", func(o *api.Obj) { o.Rels[12].At = 52 }},
		{"a relocation at the text's end", func(o *api.Obj) { o.Rels[12].At = 64 }},
	}
	for _, at := range []int{-4, -1, 1, 2, 3, 5, 25, 26, 27, 61, 63, 65, 68, 128, 1 << 20, 1<<31 - 4, 1 << 31, 1<<32 - 4} {
		l = append(l, edge{"a relocation at " + strconv.Itoa(at), func(o *api.Obj) { o.Rels[12].At = at }})
	}
	for _, kind := range []int{-1, 0, 1, 3, 4, 5, 127, 128, 255} {
		l = append(l, edge{"kind " + strconv.Itoa(kind) + " of a Jal", func(o *api.Obj) { o.Rels[12].Kind = kind }})
	}
	for _, add := range []int64{65537, -65537, 65540, -65540, 131072, 1 << 31, -1 << 31, 1 << 32, 1<<32 + 4, -1 << 32, math.MaxInt64, math.MinInt64, 1 << 48, -1 << 48} {
		for _, i := range []int{0, 6, 12} {
			l = append(l, edge{"Add " + strconv.FormatInt(add, 10), func(o *api.Obj) { o.Rels[i].Add = add }})
		}
	}
	return l
}

func wrongParams() []edge {
	var l []edge
	for _, n := range []int{-1, -64, 65, 66, 127, 128, 255} {
		for _, i := range []int{0, 3, 5} {
			l = append(l, edge{"a parameter at " + strconv.Itoa(n) + " words", func(o *api.Obj) { o.Entries[0].Params[i] = n }})
		}
		l = append(l, edge{"a parameter of the last entry at " + strconv.Itoa(n) + " words", func(o *api.Obj) { o.Entries[2].Params[0] = n }})
	}
	return l
}

func TestObjectsThatMayNotBe(t *testing.T) {
	for _, x := range wrongObjects() {
		o := full()
		x.change(&o)
		if slowMay(o) {
			t.Fatalf("%s: the test is wrong", x.what)
		}
		wantNone(t, x.what, o)
	}
}

// TestNumbersThatWrap: what isn't right, though its lowest bytes are, isn't encoded to these.
func TestNumbersThatWrap(t *testing.T) {
	for _, x := range []edge{
		{"Off of the text", func(o *api.Obj) { o.Syms[0].Off = 1 << 32 }},
		{"Off of the data", func(o *api.Obj) { o.Syms[5].Off = 1<<32 + 8 }},
		{"the least Off", func(o *api.Obj) { o.Syms[0].Off = math.MinInt }},
		{"the greatest Off", func(o *api.Obj) { o.Syms[0].Off = math.MaxInt - 3 }},
		{"At", func(o *api.Obj) { o.Rels[12].At = 1<<32 + 24 }},
		{"the least At", func(o *api.Obj) { o.Rels[0].At = math.MinInt }},
		{"the greatest At", func(o *api.Obj) { o.Rels[0].At = math.MaxInt - 3 }},
		{"Kind", func(o *api.Obj) { o.Rels[12].Kind = 256 + api.RelJump }},
		{"the least Kind", func(o *api.Obj) { o.Rels[0].Kind = math.MinInt }},
		{"a parameter", func(o *api.Obj) { o.Entries[0].Params[1] = 256 + 64 }},
		{"the least parameter", func(o *api.Obj) { o.Entries[0].Params[1] = math.MinInt }},
		{"256 parameters", func(o *api.Obj) { o.Entries[1].Params = make([]int, 256) }},
		{"256 characters", func(o *api.Obj) { o.Syms[2].Name = strings.Repeat("a", 256) }},
		{"280 characters", func(o *api.Obj) { o.Rels[2].Name = strings.Repeat("a", 280) }},
	} {
		o := full()
		x.change(&o)
		if b, e := obj.Encode(o); obj.May(o) || b != nil || e != api.Arg {
			t.Errorf("P6.1: %s: it may be, or is encoded to %v, %d", x.what, b, e)
		}
	}
}

// TestKindsOfInstructions: each kind, and some that are none, with each operation.
func TestKindsOfInstructions(t *testing.T) {
	for op := range api.Ebreak + 1 {
		for kind := -2; kind < 10; kind++ {
			o := api.Obj{Text: []uint32{ebreak, wordOf(op)}, Rels: []api.Rel{{At: 4, Kind: kind, Name: "x"}}}
			what := "kind " + strconv.Itoa(kind) + " of the operation " + strconv.Itoa(op)
			if slices.Contains(suitable()[kind], op) {
				wantMay(t, what, o)
			} else {
				wantNone(t, what, o)
			}
		}
	}
}

// TestPlacesOfOne: of an object of one word of text, and one of data, each Off and each At.
func TestPlacesOfOne(t *testing.T) {
	for at := -20; at < 40; at++ {
		for _, o := range []api.Obj{
			{Text: []uint32{jal}, Data: []uint64{1}, Syms: []api.Sym{{Name: "x", Off: at}}},
			{Text: []uint32{jal}, Data: []uint64{1}, Syms: []api.Sym{{Name: "x", Off: at, InData: true}}},
			{Text: []uint32{jal, jal}, Data: []uint64{1}, Rels: []api.Rel{{Name: "x", At: at, Kind: api.RelJump}}},
		} {
			if slowMay(o) {
				wantMay(t, "a place at "+strconv.Itoa(at), o)
			} else {
				wantNone(t, "a place at "+strconv.Itoa(at), o)
			}
		}
	}
}

func TestBytesThatEndTooSoon(t *testing.T) {
	wantMalformed(t, "nil", nil)
	wantMalformed(t, "nothing", []byte{})
	for _, o := range []api.Obj{{}, full(), {Text: []uint32{jal, ebreak}}, {Data: []uint64{1, 2}}, {Syms: []api.Sym{{Name: "a"}, {Name: longest}}}} {
		b := slowEncode(o)
		for i := range b {
			// The spare room behind the end isn't the bytes' own.
			wantMalformed(t, "the first "+strconv.Itoa(i)+" bytes", b[:i])
			wantMalformed(t, "the first "+strconv.Itoa(i)+" bytes alone", bytes.Clone(b[:i]))
		}
	}
	b := slowEncode(many())
	for i := 0; i < len(b); i += 97 {
		wantMalformed(t, "the first "+strconv.Itoa(i)+" bytes of many", b[:i])
	}
}

func TestBytesThatGoOn(t *testing.T) {
	for _, o := range []api.Obj{{}, full(), many()} {
		b := slowEncode(o)
		for _, more := range [][]byte{{0}, {1}, {255}, {0, 0, 0, 0}, []byte("OBJ1"), b} {
			wantMalformed(t, "more bytes behind the end", slices.Concat(b, more))
		}
	}
}

func TestAnotherBeginning(t *testing.T) {
	b := slowEncode(full())
	for i := range 4 {
		for c := range 256 {
			if byte(c) != b[i] {
				other := bytes.Clone(b)
				other[i] = byte(c)
				wantMalformed(t, "another beginning", other)
			}
		}
	}
	for _, s := range []string{"OBJ", "OBJ2", "OBJ0", "obj1", "1JBO", "", "OBJ1\n", "\ufeffOBJ1", " OBJ1"} {
		wantMalformed(t, "the beginning "+s, slices.Concat([]byte(s), b[4:]))
	}
	wantMalformed(t, "a byte ahead of the beginning", slices.Concat([]byte{0}, b))
}

func TestMarks(t *testing.T) {
	for marks := range 256 {
		b := []byte{'O', 'B', 'J', '1', 0, 0, 0, 0, 1, 0, 0, 0, 0, 0, 1, 'x', byte(marks), 0, 0, 0, 0}
		if marks > 3 {
			wantMalformed(t, "a Sym's byte "+strconv.Itoa(marks), b)
			continue
		}
		o, e := obj.Decode(b)
		if e != api.OK || len(o.Syms) != 1 || o.Syms[0] != (api.Sym{Name: "x", InData: marks&1 == 1, Out: marks&2 == 2}) {
			t.Errorf("P6.2: a Sym's byte %d: %v, %d", marks, o, e)
		}
	}
}

// TestCountsThatAreWrong: each count with other numbers than there are elements.
func TestCountsThatAreWrong(t *testing.T) {
	for _, o := range []api.Obj{{}, full(), many()} {
		b := slowEncode(o)
		for i := 4; i < 14; i += 2 {
			for _, c := range []int{0, 1, 2, 255, 256, 4095, 4096, 4097, 32767, 32768, 65535} {
				other := bytes.Clone(b)
				other[i], other[i+1] = byte(c), byte(c>>8)
				wantAsSlow(t, other)
			}
		}
	}
	for _, n := range []int{15, 100, 10000} {
		b := slices.Concat([]byte("OBJ1"), bytes.Repeat([]byte{255}, n))
		wantMalformed(t, "greatest counts", b)
	}
}

// wantAsSlow wants bytes to be decoded to what the slow way has for them.
func wantAsSlow(t *testing.T, b []byte) {
	t.Helper()
	want, ok := slowDecode(b)
	if !ok {
		wantMalformed(t, "bytes", b)
		return
	}
	o, e := obj.Decode(b)
	if e != api.OK || !slowSame(o, want) {
		t.Errorf("P6.2: decoded to %s, %d; want %s", short(o), e, short(want))
	}
	if c, e := obj.Encode(o); e != api.OK || !bytes.Equal(b, c) {
		t.Errorf("P6.3: decoded, encoded to %s, %d; want %s", short(c), e, short(b))
	}
}

// TestEachByteChanged: each byte of an object, as each other byte.
func TestEachByteChanged(t *testing.T) {
	o := full()
	// A few words less, so that it doesn't take long.
	o.Text, o.Rels, o.Syms, o.Entries = o.Text[:7], []api.Rel{o.Rels[0], o.Rels[2], o.Rels[12]}, slices.Concat(o.Syms[:2], o.Syms[4:6]), o.Entries[:2]
	wantMay(t, "the object", o)
	b := slowEncode(o)
	for i := range b {
		for c := range 256 {
			other := bytes.Clone(b)
			other[i] = byte(c)
			wantAsSlow(t, other)
		}
	}
}

// TestBytesAtRandom: objects' bytes with some of them changed, left out or put in.
func TestBytesAtRandom(t *testing.T) {
	r := rand.New(rand.NewSource(6))
	for range 4000 {
		b := slowEncode(someObject(r))
		for range 1 + r.Intn(3) {
			at := r.Intn(len(b))
			switch r.Intn(4) {
			case 0:
				b[at] = byte(r.Intn(256))
			case 1:
				b[at] ^= 1 << r.Intn(8)
			case 2:
				b = slices.Delete(b, at, at+1)
			case 3:
				b = slices.Insert(b, at, byte(r.Intn(70)))
			}
		}
		wantAsSlow(t, b)
	}
}

func TestObjectsAtRandom(t *testing.T) {
	r := rand.New(rand.NewSource(66))
	for range 2000 {
		o := someObject(r)
		wantMay(t, "an object", o)
		p := someObject(r)
		if obj.Same(o, p) != slowSame(o, p) {
			t.Errorf("P6.1: Same(%v, %v) is %v", o, p, obj.Same(o, p))
		}
	}
}

// differences are changes of the full object, each at one place.
func differences() []edge {
	l := []edge{
		{"less text", func(o *api.Obj) { o.Text = o.Text[:len(o.Text)-1] }},
		{"more text", func(o *api.Obj) { o.Text = append(o.Text, 0) }},
		{"no text", func(o *api.Obj) { o.Text = nil }},
		{"less data", func(o *api.Obj) { o.Data = o.Data[:len(o.Data)-1] }},
		{"more data", func(o *api.Obj) { o.Data = append(o.Data, 0) }},
		{"no data", func(o *api.Obj) { o.Data = nil }},
		{"fewer Syms", func(o *api.Obj) { o.Syms = o.Syms[:len(o.Syms)-1] }},
		{"more Syms", func(o *api.Obj) { o.Syms = append(o.Syms, api.Sym{}) }},
		{"no Syms", func(o *api.Obj) { o.Syms = nil }},
		{"fewer Rels", func(o *api.Obj) { o.Rels = o.Rels[:len(o.Rels)-1] }},
		{"more Rels", func(o *api.Obj) { o.Rels = append(o.Rels, api.Rel{}) }},
		{"no Rels", func(o *api.Obj) { o.Rels = nil }},
		{"fewer Entries", func(o *api.Obj) { o.Entries = o.Entries[:len(o.Entries)-1] }},
		{"more Entries", func(o *api.Obj) { o.Entries = append(o.Entries, api.Entry{}) }},
		{"no Entries", func(o *api.Obj) { o.Entries = nil }},
		{"text in another order", func(o *api.Obj) { o.Text[0], o.Text[1] = o.Text[1], o.Text[0] }},
		{"data in another order", func(o *api.Obj) { o.Data[0], o.Data[1] = o.Data[1], o.Data[0] }},
		{"Syms in another order", func(o *api.Obj) { o.Syms[0], o.Syms[1] = o.Syms[1], o.Syms[0] }},
		{"Rels in another order", func(o *api.Obj) { o.Rels[0], o.Rels[1] = o.Rels[1], o.Rels[0] }},
		{"Entries in another order", func(o *api.Obj) { o.Entries[0], o.Entries[1] = o.Entries[1], o.Entries[0] }},
	}
	o := full()
	for i := range o.Text {
		l = append(l, edge{"a word of text", func(o *api.Obj) { o.Text[i] ^= 1 << (2 * i) }})
	}
	for i := range o.Data {
		l = append(l, edge{"a word of data", func(o *api.Obj) { o.Data[i] ^= 1 << (30 * i) }})
	}
	for i := range o.Syms {
		l = append(l,
			edge{"a Sym's name", func(o *api.Obj) { o.Syms[i].Name = "another" }},
			edge{"a Sym's InData", func(o *api.Obj) { o.Syms[i].InData = !o.Syms[i].InData }},
			edge{"a Sym's Off", func(o *api.Obj) { o.Syms[i].Off += 1 << 32 }},
			edge{"a Sym's Out", func(o *api.Obj) { o.Syms[i].Out = !o.Syms[i].Out }})
	}
	for i := range o.Rels {
		l = append(l,
			edge{"a Rel's At", func(o *api.Obj) { o.Rels[i].At += 4 }},
			edge{"a Rel's Kind", func(o *api.Obj) { o.Rels[i].Kind += 256 }},
			edge{"a Rel's name", func(o *api.Obj) { o.Rels[i].Name += "_" }},
			edge{"a Rel's Add", func(o *api.Obj) { o.Rels[i].Add++ }})
	}
	for i, e := range o.Entries {
		l = append(l,
			edge{"an Entry's name", func(o *api.Obj) { o.Entries[i].Name = "inner" }},
			edge{"another parameter", func(o *api.Obj) { o.Entries[i].Params = append(slices.Clone(e.Params), 0) }})
		for k := range e.Params {
			l = append(l,
				edge{"a parameter", func(o *api.Obj) { o.Entries[i].Params[k] += 256 }},
				edge{"a parameter less", func(o *api.Obj) { o.Entries[i].Params = o.Entries[i].Params[:k] }})
		}
	}
	return l
}

func TestSame(t *testing.T) {
	if !obj.Same(full(), full()) || !obj.Same(many(), many()) || obj.Same(full(), many()) || obj.Same(full(), api.Obj{}) {
		t.Error("P6.1: Same of whole objects")
	}
	for _, x := range differences() {
		o, p := full(), full()
		x.change(&o)
		x.change(&p)
		if !obj.Same(o, p) {
			t.Errorf("P6.1: %s: alike in both, but not the same", x.what)
		}
		if obj.Same(o, full()) || obj.Same(full(), o) {
			t.Errorf("P6.1: %s: not alike, but the same", x.what)
		}
	}
	for _, x := range wrongObjects() {
		o, p := full(), full()
		x.change(&o)
		x.change(&p)
		if !obj.Same(o, p) || obj.Same(o, full()) {
			t.Errorf("P6.1: %s: Same of what may not be", x.what)
		}
	}
}

// TestDifferencesAreEncoded: objects that differ have other bytes.
func TestDifferencesAreEncoded(t *testing.T) {
	was, _ := obj.Encode(full())
	n := 0
	for _, x := range differences() {
		o := full()
		x.change(&o)
		b, e := obj.Encode(o)
		if (e == api.OK) != slowMay(o) || bytes.Equal(b, was) {
			t.Errorf("P6.3: %s: %v, %d", x.what, b, e)
		}
		if e == api.OK {
			n++
		}
	}
	if n < 20 {
		t.Errorf("of the differences %d may be: the test is wrong", n)
	}
}

func TestNilAndEmptyAreAlike(t *testing.T) {
	a, b := full(), full()
	a.Entries[1].Params, b.Entries[1].Params = nil, []int{}
	if !obj.Same(a, b) || !obj.Same(b, a) {
		t.Error("P6.1: no parameters, nil and empty")
	}
	x, _ := obj.Encode(a)
	y, _ := obj.Encode(b)
	if !bytes.Equal(x, y) {
		t.Error("P6.1: nil and empty parameters are encoded to other bytes")
	}
	p, e := obj.Decode(x)
	if e != api.OK || !obj.Same(p, a) || !obj.Same(b, p) {
		t.Errorf("P6.3: %v, %d", p, e)
	}
}

// roomy is the full object, its lists with spare room that holds something.
func roomy() api.Obj {
	o := full()
	o.Text = append(o.Text, 77)[:len(o.Text)]
	o.Data = append(o.Data, 77)[:len(o.Data)]
	o.Syms = append(o.Syms, api.Sym{Name: "spare"})[:len(o.Syms)]
	o.Rels = append(o.Rels, api.Rel{Name: "spare"})[:len(o.Rels)]
	o.Entries = append(o.Entries, api.Entry{Name: "spare"})[:len(o.Entries)]
	o.Entries[0].Params = append(o.Entries[0].Params, 77)[:6]
	return o
}

// whole is an object with the spare room of its lists.
func whole(o api.Obj) api.Obj {
	o.Text, o.Data, o.Syms, o.Rels, o.Entries = o.Text[:len(o.Text)+1], o.Data[:len(o.Data)+1], o.Syms[:len(o.Syms)+1], o.Rels[:len(o.Rels)+1], slices.Clone(o.Entries[:len(o.Entries)+1])
	o.Entries[0].Params = o.Entries[0].Params[:7]
	return o
}

// TestObjectsAreNeitherChangedNorKept: rule 3 of the document, for what takes objects.
func TestObjectsAreNeitherChangedNorKept(t *testing.T) {
	o := roomy()
	obj.May(o)
	b, _ := obj.Encode(o)
	obj.Same(o, roomy())
	obj.Same(roomy(), o)
	if !slowSame(whole(o), whole(roomy())) {
		t.Error("P6.1: an object that was handed in is changed")
	}
	clear(o.Text)
	clear(o.Data)
	clear(o.Syms)
	clear(o.Rels)
	clear(o.Entries[0].Params)
	clear(o.Entries)
	if !bytes.Equal(b, slowEncode(full())) {
		t.Error("P6.1: what was encoded is kept")
	}
	c, _ := obj.Encode(full())
	clear(b)
	d, _ := obj.Encode(full())
	if !bytes.Equal(c, d) || !bytes.Equal(d, slowEncode(full())) {
		t.Error("P6.1: two answers share their memory")
	}
}

// TestBytesAreNeitherChangedNorKept: rule 3 of the document, for Decode.
func TestBytesAreNeitherChangedNorKept(t *testing.T) {
	b := append(slowEncode(full()), 77)
	was := bytes.Clone(b)
	o, e := obj.Decode(b[:len(b)-1])
	obj.Decode(b)
	if !bytes.Equal(b, was) {
		t.Error("P6.2: bytes that were handed in are changed")
	}
	p, _ := obj.Decode(b[:len(b)-1])
	for i := range b {
		b[i] = 'x'
	}
	clear(p.Text)
	clear(p.Data)
	clear(p.Syms)
	clear(p.Rels)
	for _, n := range p.Entries {
		clear(n.Params[:cap(n.Params)])
	}
	if e != api.OK || !slowSame(o, full()) {
		t.Errorf("P6.2: what was decoded is kept: %v, %d", o, e)
	}
}

// TestListsOfOneAnswer: no two lists of one answer share their memory, not even by their spare room.
func TestListsOfOneAnswer(t *testing.T) {
	o := full()
	o.Entries[1].Params = []int{9}
	o.Entries[2].Params = []int{5, 4, 3}
	p, _ := obj.Decode(slowEncode(o))
	for i := range p.Entries {
		l := p.Entries[i].Params
		l = l[:cap(l)]
		for k := len(p.Entries[i].Params); k < len(l); k++ {
			l[k] = 77
		}
	}
	if !slowSame(o, p) {
		t.Errorf("P6.2: lists of one answer share their memory: %v", p)
	}
}

// TestCallsHangOnNothingElse: a wrong call ahead of it changes no later one.
func TestCallsHangOnNothingElse(t *testing.T) {
	for _, x := range wrongObjects() {
		o := full()
		x.change(&o)
		obj.Encode(o)
		obj.Decode(slowEncode(o))
		if b, e := obj.Encode(full()); e != api.OK || !bytes.Equal(b, slowEncode(full())) {
			t.Fatalf("P6.1: behind %s: %v, %d", x.what, b, e)
		}
		if p, e := obj.Decode(slowEncode(full())); e != api.OK || !slowSame(p, full()) {
			t.Fatalf("P6.2: behind %s: %v, %d", x.what, p, e)
		}
	}
}
