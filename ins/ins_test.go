package ins_test

import (
	"math"
	"testing"

	"caponier/api"
	"caponier/ins"
)

const operations = api.Ebreak + 1

// patterns are the operations' words, bit 31 first: d, a, b stand for bits of rd, rs1, rs2, i for such of the number.
func patterns() [operations]string {
	return [operations]string{
		api.Add: "0000000bbbbbaaaaa000ddddd0110011", api.Sub: "0100000bbbbbaaaaa000ddddd0110011",
		api.Sll: "0000000bbbbbaaaaa001ddddd0110011", api.Slt: "0000000bbbbbaaaaa010ddddd0110011",
		api.Sltu: "0000000bbbbbaaaaa011ddddd0110011", api.Xor: "0000000bbbbbaaaaa100ddddd0110011",
		api.Srl: "0000000bbbbbaaaaa101ddddd0110011", api.Sra: "0100000bbbbbaaaaa101ddddd0110011",
		api.Or: "0000000bbbbbaaaaa110ddddd0110011", api.And: "0000000bbbbbaaaaa111ddddd0110011",
		api.Mul: "0000001bbbbbaaaaa000ddddd0110011", api.Mulhu: "0000001bbbbbaaaaa011ddddd0110011",
		api.Div: "0000001bbbbbaaaaa100ddddd0110011", api.Divu: "0000001bbbbbaaaaa101ddddd0110011",
		api.Rem: "0000001bbbbbaaaaa110ddddd0110011", api.Remu: "0000001bbbbbaaaaa111ddddd0110011",
		api.Addi: "iiiiiiiiiiiiaaaaa000ddddd0010011", api.Slti: "iiiiiiiiiiiiaaaaa010ddddd0010011",
		api.Sltiu: "iiiiiiiiiiiiaaaaa011ddddd0010011", api.Xori: "iiiiiiiiiiiiaaaaa100ddddd0010011",
		api.Ori: "iiiiiiiiiiiiaaaaa110ddddd0010011", api.Andi: "iiiiiiiiiiiiaaaaa111ddddd0010011",
		api.Slli: "000000iiiiiiaaaaa001ddddd0010011", api.Srli: "000000iiiiiiaaaaa101ddddd0010011",
		api.Srai: "010000iiiiiiaaaaa101ddddd0010011",
		api.Lb:   "iiiiiiiiiiiiaaaaa000ddddd0000011", api.Lbu: "iiiiiiiiiiiiaaaaa100ddddd0000011",
		api.Lw: "iiiiiiiiiiiiaaaaa010ddddd0000011", api.Ld: "iiiiiiiiiiiiaaaaa011ddddd0000011",
		api.Sb: "iiiiiiibbbbbaaaaa000iiiii0100011", api.Sw: "iiiiiiibbbbbaaaaa010iiiii0100011",
		api.Sd:  "iiiiiiibbbbbaaaaa011iiiii0100011",
		api.Beq: "iiiiiiibbbbbaaaaa000iiiii1100011", api.Bne: "iiiiiiibbbbbaaaaa001iiiii1100011",
		api.Blt: "iiiiiiibbbbbaaaaa100iiiii1100011", api.Bge: "iiiiiiibbbbbaaaaa101iiiii1100011",
		api.Bltu: "iiiiiiibbbbbaaaaa110iiiii1100011", api.Bgeu: "iiiiiiibbbbbaaaaa111iiiii1100011",
		api.Lui: "iiiiiiiiiiiiiiiiiiiiddddd0110111", api.Auipc: "iiiiiiiiiiiiiiiiiiiiddddd0010111",
		api.Jal: "iiiiiiiiiiiiiiiiiiiiddddd1101111", api.Jalr: "iiiiiiiiiiiiaaaaa000ddddd1100111",
		api.Ebreak: "00000000000100000000000001110011",
	}
}

// form is what the test knows of a form: which fields it has, the least and the greatest number, of what it is a multiple, and which of its bits lie in the word, bit 31 first, wherever the pattern has an i.
type form struct {
	name         string
	rd, rs1, rs2 bool
	least, most  int64
	of           int64
	bits         []int
}

func formOf(op int) form {
	switch {
	case op <= api.Remu:
		return form{name: "R", rd: true, rs1: true, rs2: true, of: 1}
	case op >= api.Slli && op <= api.Srai:
		return form{name: "I", rd: true, rs1: true, most: 63, of: 1, bits: down(5, 0)}
	case op <= api.Ld || op == api.Jalr:
		return form{name: "I", rd: true, rs1: true, least: -2048, most: 2047, of: 1, bits: down(11, 0)}
	case op <= api.Sd:
		return form{name: "S", rs1: true, rs2: true, least: -2048, most: 2047, of: 1, bits: down(11, 0)}
	case op <= api.Bgeu:
		return form{name: "B", rs1: true, rs2: true, least: -4096, most: 4094, of: 2, bits: join(down(12, 12), down(10, 1), down(11, 11))}
	case op <= api.Auipc:
		return form{name: "U", rd: true, least: math.MinInt32, most: 0x7ffff000, of: 4096, bits: down(31, 12)}
	case op == api.Jal:
		return form{name: "J", rd: true, least: -1048576, most: 1048574, of: 2, bits: join(down(20, 20), down(10, 1), down(11, 11), down(19, 12))}
	}
	return form{name: "E", of: 1}
}

func down(from, to int) []int {
	var l []int
	for i := from; i >= to; i-- {
		l = append(l, i)
	}
	return l
}

func join(lists ...[]int) []int {
	var l []int
	for _, x := range lists {
		l = append(l, x...)
	}
	return l
}

// slowEncode writes an instruction that may be bit by bit, after its pattern.
func slowEncode(x api.Ins) uint32 {
	w := uint32(0)
	rd, rs1, rs2, imm := 4, 4, 4, 0
	for _, c := range patterns()[x.Op] {
		bit := uint32(0)
		switch c {
		case '1':
			bit = 1
		case 'd':
			bit, rd = uint32(x.Rd>>rd&1), rd-1
		case 'a':
			bit, rs1 = uint32(x.Rs1>>rs1&1), rs1-1
		case 'b':
			bit, rs2 = uint32(x.Rs2>>rs2&1), rs2-1
		case 'i':
			bit, imm = uint32(x.Imm>>formOf(x.Op).bits[imm]&1), imm+1
		}
		w = w*2 + bit
	}
	return w
}

// slowDecoder reads words after the patterns, whose fixed bits it holds.
type slowDecoder struct {
	pattern    [operations]string
	fixed, one [operations]uint32
}

func newSlowDecoder() *slowDecoder {
	d := &slowDecoder{pattern: patterns()}
	for op, p := range d.pattern {
		for i, c := range p {
			if c == '0' || c == '1' {
				d.fixed[op] |= 1 << (31 - i)
			}
			if c == '1' {
				d.one[op] |= 1 << (31 - i)
			}
		}
	}
	return d
}

func (d *slowDecoder) decode(w uint32) (api.Ins, bool) {
	for op := range operations {
		if w&d.fixed[op] == d.one[op] {
			return d.read(op, w), true
		}
	}
	return api.Ins{}, false
}

func (d *slowDecoder) read(op int, w uint32) api.Ins {
	x := api.Ins{Op: op}
	f := formOf(op)
	imm := 0
	for i, c := range d.pattern[op] {
		bit := w >> (31 - i) & 1
		switch c {
		case 'd':
			x.Rd = x.Rd*2 + int(bit)
		case 'a':
			x.Rs1 = x.Rs1*2 + int(bit)
		case 'b':
			x.Rs2 = x.Rs2*2 + int(bit)
		case 'i':
			x.Imm += int64(bit) << f.bits[imm]
			imm++
		}
	}
	if x.Imm > f.most { // only a number with a sign can come out too great
		x.Imm += 2 * f.least
	}
	return x
}

// noise are words without a pattern, the same in each run.
func noise() func() uint64 {
	x := uint64(88172645463325252)
	return func() uint64 {
		x ^= x << 13
		x ^= x >> 7
		x ^= x << 17
		return x
	}
}

// plain is an instruction of that operation that may be.
func plain(op int) api.Ins {
	x := api.Ins{Op: op}
	f := formOf(op)
	if f.rd {
		x.Rd = 1
	}
	if f.rs1 {
		x.Rs1 = 2
	}
	if f.rs2 {
		x.Rs2 = 3
	}
	if f.most > 0 {
		x.Imm = f.of
	}
	return x
}

func wantWord(t *testing.T, x api.Ins, w uint32) {
	t.Helper()
	if !ins.May(x) {
		t.Errorf("P2.1: May(%v) is false", x)
	}
	if v, e := ins.Encode(x); v != w || e != api.OK {
		t.Errorf("P2.1: Encode(%v) = %#08x, %d; want %#08x", x, v, e, w)
	}
	if y, e := ins.Decode(w); y != x || e != api.OK {
		t.Errorf("P2.2: Decode(%#08x) = %v, %d; want %v", w, y, e, x)
	}
}

func wantArg(t *testing.T, x api.Ins) {
	t.Helper()
	if ins.May(x) {
		t.Errorf("P2.1: May(%v) is true", x)
	}
	if v, e := ins.Encode(x); v != 0 || e != api.Arg {
		t.Errorf("P2.1: Encode(%v) = %#08x, %d; want 0, Arg", x, v, e)
	}
}

func TestForm(t *testing.T) {
	for op := range operations {
		if f := ins.Form(op); f != formOf(op).name {
			t.Errorf("P2.1: Form(%d) = %q; want %q", op, f, formOf(op).name)
		}
	}
}

func TestWordsOfEachOperation(t *testing.T) {
	words := writtenWords()
	for op := range operations {
		if len(words[op]) == 0 {
			t.Errorf("no word of operation %d is tested", op)
		}
		for _, c := range words[op] {
			wantWord(t, api.Ins{Op: op, Rd: c.rd, Rs1: c.rs1, Rs2: c.rs2, Imm: c.imm}, c.word)
		}
	}
}

func TestTheChaptersExample(t *testing.T) {
	wantWord(t, api.Ins{Op: api.Addi, Rd: 1, Imm: -1}, 0xfff00093)
}

func TestNoOperation(t *testing.T) {
	for _, op := range []int{-1, -43, operations, operations + 1, 64, 128, 256, 1 << 32, 1<<32 + api.Add, math.MaxInt, math.MinInt} {
		if f := ins.Form(op); f != "" {
			t.Errorf("P2.1: Form(%d) = %q; want none", op, f)
		}
		wantArg(t, api.Ins{Op: op})
		wantArg(t, api.Ins{Op: op, Rd: 1, Rs1: 2, Rs2: 3, Imm: 4})
	}
}

// setRegister sets one of the three registers.
func setRegister(x api.Ins, which, r int) api.Ins {
	switch which {
	case 0:
		x.Rd = r
	case 1:
		x.Rs1 = r
	default:
		x.Rs2 = r
	}
	return x
}

func TestRegisters(t *testing.T) {
	for op := range operations {
		f := formOf(op)
		for which, has := range []bool{f.rd, f.rs1, f.rs2} {
			for r := range 32 {
				x := setRegister(plain(op), which, r)
				if has || r == 0 {
					wantWord(t, x, slowEncode(x))
				} else {
					wantArg(t, x)
				}
			}
			for _, r := range []int{-1, -31, -32, 32, 33, 63, 64, 256, 1 << 32, 1<<32 + 1, math.MaxInt, math.MinInt} {
				wantArg(t, setRegister(plain(op), which, r))
			}
		}
	}
}

func TestNumbers(t *testing.T) {
	for op := range operations {
		f := formOf(op)
		x := plain(op)
		for _, imm := range []int64{f.least, f.least + f.of, f.least / 2 / f.of * f.of, 0, f.most / 2 / f.of * f.of, f.most - f.of, f.most} {
			if f.most > 0 || imm == 0 {
				x.Imm = imm
				wantWord(t, x, slowEncode(x))
			}
		}
		for _, imm := range []int64{
			f.least - f.of, f.least - 1, f.most + f.of, f.most + 1, 2 * (f.least - f.of), 2 * (f.most + f.of),
			math.MinInt64, math.MinInt64 + f.of, math.MaxInt64, 1 << 32, -1 << 33, 1 << 62, 1<<32 + f.of, 1<<40 - f.of,
		} {
			x.Imm = imm
			wantArg(t, x)
		}
	}
}

func TestNumbersThatAreNoMultiple(t *testing.T) {
	for op := range operations {
		f := formOf(op)
		x := plain(op)
		for _, base := range []int64{f.least, 0, f.most} {
			for _, more := range []int64{1, 2, 3, 4, 8, 255, 256, 1024, 2047, 2048, 4095} {
				x.Imm = base + more
				if x.Imm%f.of != 0 || x.Imm > f.most {
					wantArg(t, x)
				}
			}
		}
	}
}

func TestShiftsByANumber(t *testing.T) {
	for _, op := range []int{api.Slli, api.Srli, api.Srai} {
		for imm := range int64(64) {
			x := api.Ins{Op: op, Rd: 31, Rs1: 17, Imm: imm}
			wantWord(t, x, slowEncode(x))
		}
		for _, imm := range []int64{-1, -63, -64, 64, 65, 127, 128, 1024, 1024 + 5, 2047, -2048, 1 << 32} {
			wantArg(t, api.Ins{Op: op, Rd: 31, Rs1: 17, Imm: imm})
		}
	}
}

func wantDecoded(t *testing.T, d *slowDecoder, w uint32) {
	t.Helper()
	x, e := ins.Decode(w)
	y, ok := d.decode(w)
	if !ok {
		if x != (api.Ins{}) || e != api.Malformed {
			t.Fatalf("P2.2: Decode(%#08x) = %v, %d; want nothing, Malformed", w, x, e)
		}
		return
	}
	if x != y || e != api.OK {
		t.Fatalf("P2.2: Decode(%#08x) = %v, %d; want %v", w, x, e, y)
	}
	if v, e := ins.Encode(x); v != w || e != api.OK || !ins.May(x) {
		t.Fatalf("P2.3: %#08x is decoded to %v, and that encoded to %#08x, %d", w, x, v, e)
	}
}

func TestDecodeOfAllThatTells(t *testing.T) {
	d := newSlowDecoder()
	for first := range uint32(128) {
		for kind := range uint32(8) {
			for rest := range uint32(128) {
				for _, registers := range []uint32{0, 31<<20 | 31<<15 | 31<<7, 1<<20 | 2<<15 | 3<<7} {
					wantDecoded(t, d, rest<<25|kind<<12|first|registers)
				}
			}
		}
	}
}

func TestDecodeOfWordsWithABitTurned(t *testing.T) {
	d := newSlowDecoder()
	for _, l := range writtenWords() {
		for _, c := range l {
			for i := range 32 {
				wantDecoded(t, d, c.word^1<<i)
			}
		}
	}
}

func TestDecodeOfNoInstruction(t *testing.T) {
	for _, w := range []uint32{
		0, math.MaxUint32, 0x73, 0x00200073, 0x001000f3, 0x00101073, 0x00108073, 0x80100073, // around Ebreak
		0x40001033, 0x40004033, 0x60000033, 0x02001033, 0x02002033, 0x04000033, 0x80000033, // R of another number
		0x04001013, 0x40001013, 0x44005013, 0x80005013, 0x20005013, // shifts with more above the number
		0x00001003, 0x00005003, 0x00006003, 0x00007003, 0x00001067, 0x00007067, 0x00001023, 0x00004023, 0x00002063, 0x00003063, // kinds that none has
	} {
		if x, e := ins.Decode(w); x != (api.Ins{}) || e != api.Malformed {
			t.Errorf("P2.2: Decode(%#08x) = %v, %d; want nothing, Malformed", w, x, e)
		}
	}
}

func TestWhatIsDecodedIsEncodedToItself(t *testing.T) {
	d := newSlowDecoder()
	next := noise()
	firsts := []uint32{0x33, 0x13, 0x03, 0x67, 0x23, 0x63, 0x37, 0x17, 0x6f, 0x73}
	for range 20000 {
		w := uint32(next() >> 16)
		wantDecoded(t, d, w)
		for _, first := range firsts {
			wantDecoded(t, d, w&^0x7f|first)
		}
	}
}

// someIns is an instruction of that operation, of any registers and number that its form may have.
func someIns(op int, next func() uint64) api.Ins {
	x := api.Ins{Op: op}
	f := formOf(op)
	if f.rd {
		x.Rd = int(next() >> 20 % 32)
	}
	if f.rs1 {
		x.Rs1 = int(next() >> 20 % 32)
	}
	if f.rs2 {
		x.Rs2 = int(next() >> 20 % 32)
	}
	many := uint64((f.most-f.least)/f.of + 1)
	x.Imm = f.least + int64(next()>>20%many)*f.of
	return x
}

func TestWhatIsEncodedIsDecodedToItself(t *testing.T) {
	next := noise()
	for op := range operations {
		for range 1000 {
			x := someIns(op, next)
			w, e := ins.Encode(x)
			if w != slowEncode(x) || e != api.OK {
				t.Fatalf("P2.1: Encode(%v) = %#08x, %d; want %#08x", x, w, e, slowEncode(x))
			}
			if y, e := ins.Decode(w); y != x || e != api.OK {
				t.Fatalf("P2.3: %v is encoded to %#08x, and that decoded to %v, %d", x, w, y, e)
			}
		}
	}
}

func TestWhatMayBeIsWhatIsEncoded(t *testing.T) {
	next := noise()
	for range 50000 {
		x := someIns(int(next()>>20%operations), next)
		switch next() >> 20 % 4 {
		case 0:
			x.Imm += int64(next()>>20%8193) - 4096
		case 1:
			x.Imm = int64(next()) >> (next() >> 20 % 64)
		case 2:
			x = setRegister(x, int(next()>>20%3), int(next()>>20%40)-4)
		}
		_, e := ins.Encode(x)
		if may := mayBe(x); ins.May(x) != may || (e == api.OK) != may {
			t.Fatalf("P2.1: May(%v) = %v, Encode: %d; want %v", x, ins.May(x), e, may)
		}
	}
}

// mayBe is the chapter's own words.
func mayBe(x api.Ins) bool {
	f := formOf(x.Op)
	for i, has := range []bool{f.rd, f.rs1, f.rs2} {
		r := []int{x.Rd, x.Rs1, x.Rs2}[i]
		if r < 0 || r > 31 || !has && r != 0 {
			return false
		}
	}
	return x.Imm >= f.least && x.Imm <= f.most && x.Imm%f.of == 0
}
