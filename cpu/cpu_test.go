package cpu_test

import (
	"math"
	"slices"
	"testing"

	"caponier/api"
	"caponier/bits"
	"caponier/cpu"
	"caponier/ins"
	"caponier/mem"
)

const (
	own     = uint64(0x1000) // where the module's text begins
	data    = uint64(0x1100) // the module's data
	out     = uint64(0x2000) // the context's text
	outData = uint64(0x2100) // the context's data
	both    = uint64(0x3000) // what both may fetch, read and write
	blind   = uint64(0x4000) // what both may fetch, and nothing else
	last    = uint64(1<<64 - 16)
	high    = uint64(1) << 63
	all     = api.Read | api.Write | api.Fetch
	words   = api.Read | api.Write
)

func table() []api.Region {
	return []api.Region{
		{Lo: own, Hi: own + 0x40, Own: api.Fetch},
		{Lo: data, Hi: data + 0x40, Own: words},
		{Lo: out, Hi: out + 0x40, Out: api.Fetch},
		{Lo: outData, Hi: outData + 0x40, Own: api.Read, Out: words},
		{Lo: both, Hi: both + 0x40, Own: all, Out: all},
		{Lo: blind, Hi: blind + 0x40, Own: api.Fetch, Out: api.Fetch},
		{Lo: last, Hi: last + 8, Own: all, Out: all},
	}
}

func newMem(t *testing.T) *mem.Mem {
	t.Helper()
	m, code := mem.New(table())
	if code != api.OK {
		t.Fatalf("a table that may not be: %v", code)
	}
	return m
}

// lay puts instructions where they are to be.
func lay(t *testing.T, m *mem.Mem, at uint64, l ...api.Ins) {
	t.Helper()
	for _, x := range l {
		w, code := ins.Encode(x)
		if code != api.OK {
			t.Fatalf("no instruction: %v", x)
		}
		layWord(t, m, at, w)
		at += 4
	}
}

func layWord(t *testing.T, m *mem.Mem, at uint64, w uint32) {
	t.Helper()
	if code := m.Poke(at, bits.Bytes(uint64(w), 4)); code != api.OK {
		t.Fatalf("no room at %#x: %v", at, code)
	}
}

func layNumber(t *testing.T, m *mem.Mem, at, v uint64) {
	t.Helper()
	if code := m.Poke(at, bits.Bytes(v, 8)); code != api.OK {
		t.Fatalf("no room at %#x: %v", at, code)
	}
}

func number(t *testing.T, m *mem.Mem, at uint64) uint64 {
	t.Helper()
	b, code := m.Peek(at, 8)
	v, ok := bits.Word(b)
	if code != api.OK || !ok {
		t.Fatalf("no number at %#x", at)
	}
	return v
}

// at is a state that goes on somewhere, with numbers in the registers 5, 6 and so on.
func at(pc uint64, module bool, regs ...uint64) api.State {
	s := api.State{Pc: pc, Own: module}
	copy(s.Regs[5:], regs)
	return s
}

// with is a state with one more register set.
func with(s api.State, r int, v uint64) api.State {
	s.Regs[r] = v
	return s
}

func gone(s api.State, pc uint64, done int) api.State {
	s.Pc, s.Done = pc, done
	return s
}

func wantState(t *testing.T, promise string, c *cpu.Cpu, want api.State) {
	t.Helper()
	if s := c.State(); s != want {
		t.Errorf("%s: the state is\n%#v; want\n%#v", promise, s, want)
	}
}

func wantLeaks(t *testing.T, promise string, c *cpu.Cpu, want ...api.Leak) {
	t.Helper()
	if l := c.Leaks(); !slices.Equal(l, want) {
		t.Errorf("%s: shown is %#v; want %#v", promise, l, want)
	}
}

func wantEvents(t *testing.T, promise string, c *cpu.Cpu, want ...api.Event) {
	t.Helper()
	if l := c.Events(); !slices.Equal(l, want) {
		t.Errorf("%s: the changes are %#v; want %#v", promise, l, want)
	}
}

func leakPc(a uint64) api.Leak { return api.Leak{Kind: api.LeakPc, A: a} }

func leakAt(a uint64) api.Leak { return api.Leak{Kind: api.LeakAt, A: a} }

func leakDiv(a, b uint64) api.Leak { return api.Leak{Kind: api.LeakDiv, A: a, B: b} }

// noise are words without a pattern, the same in each run.
func noise() func() uint64 {
	x := uint64(88172645463325252)
	return func() uint64 {
		x ^= x << 13
		x ^= x >> 7
		x ^= x << 17
		return x
	}
}

func neg(n uint64) uint64 { return 0 - n }

// reckoned are operations that do no more than set register 7, of the registers 5 and 6.
func reckoned() []struct {
	x       api.Ins
	a, b, v uint64
} {
	two := func(op int) api.Ins { return api.Ins{Op: op, Rd: 7, Rs1: 5, Rs2: 6} }
	num := func(op int, imm int64) api.Ins { return api.Ins{Op: op, Rd: 7, Rs1: 5, Imm: imm} }
	return []struct {
		x       api.Ins
		a, b, v uint64
	}{
		{two(api.Add), 40, 2, 42}, {two(api.Add), neg(1), 2, 1}, {two(api.Sub), 40, 2, 38}, {two(api.Sub), 0, 1, neg(1)},
		{two(api.Sll), 3, 65, 6}, {two(api.Slt), neg(1), 0, 1}, {two(api.Sltu), neg(1), 0, 0}, {two(api.Xor), 12, 10, 6},
		{two(api.Srl), neg(2), 1, high - 1}, {two(api.Sra), neg(2), 1, neg(1)}, {two(api.Or), 12, 10, 14}, {two(api.And), 12, 10, 8},
		{two(api.Mul), 6, 7, 42}, {two(api.Mulhu), high, 6, 3},
		{two(api.Div), neg(9), 2, neg(4)}, {two(api.Divu), neg(9), 2, high - 5}, {two(api.Rem), neg(9), 2, neg(1)}, {two(api.Remu), neg(9), 2, 1},
		{two(api.Div), 9, 0, neg(1)}, {two(api.Div), high, neg(1), high}, {two(api.Remu), 9, 0, 9},
		{num(api.Addi, -3), 1, 0, neg(2)}, {num(api.Slti, -1), neg(2), 0, 1}, {num(api.Sltiu, -1), 5, 0, 1}, {num(api.Xori, -1), 5, 0, neg(6)},
		{num(api.Ori, 8), 5, 0, 13}, {num(api.Andi, 12), 5, 0, 4}, {num(api.Slli, 63), 5, 0, high}, {num(api.Srli, 63), neg(1), 0, 1}, {num(api.Srai, 63), high, 0, neg(1)},
		{api.Ins{Op: api.Lui, Rd: 7, Imm: 0x12345000}, 1, 2, 0x12345000}, {api.Ins{Op: api.Lui, Rd: 7, Imm: math.MinInt32}, 1, 2, neg(1 << 31)},
		{api.Ins{Op: api.Auipc, Rd: 7, Imm: 0x1000}, 1, 2, both + 0x1010}, {api.Ins{Op: api.Auipc, Rd: 7, Imm: -0x4000}, 1, 2, neg(0xff0)},
	}
}

// TestReckonings: each operation that reckons, run by both, where both may do anything.
func TestReckonings(t *testing.T) {
	for _, module := range []bool{true, false} {
		for _, r := range reckoned() {
			m := newMem(t)
			lay(t, m, both+16, r.x)
			s := at(both+16, module, r.a, r.b, 99)
			c := cpu.New(m, nil, s)
			if !c.Step() {
				t.Errorf("P5.1: no step of %v", r.x)
			}
			wantState(t, "P5.1", c, with(gone(s, both+20, api.Runs), 7, r.v))
			wantEvents(t, "P5.2", c)
			switch {
			case !module:
				wantLeaks(t, "P5.2", c)
			case r.x.Op >= api.Div && r.x.Op <= api.Remu:
				wantLeaks(t, "P5.2", c, leakPc(both+16), leakDiv(r.a, r.b))
			default:
				wantLeaks(t, "P5.2", c, leakPc(both+16))
			}
		}
	}
}

// TestLoads: as many bytes as the operation says, signed or as they are, run by both.
func TestLoads(t *testing.T) {
	const v, w = uint64(0xf1e2d3c4b5a69788), uint64(0x1122334455667778)
	for _, module := range []bool{true, false} {
		for _, l := range []struct {
			op       int
			base     uint64
			imm      int64
			at, want uint64
		}{
			{api.Lb, both + 32, 0, both + 32, neg(0x78)}, {api.Lbu, both + 32, 0, both + 32, 0x88}, {api.Lb, both + 32, 1, both + 33, neg(0x69)}, {api.Lbu, both + 40, -1, both + 39, 0xf1},
			{api.Lb, both + 40, 0, both + 40, 0x78}, {api.Lbu, both + 40, 7, both + 47, 0x11},
			{api.Lw, both + 32, 0, both + 32, 0xffffffffb5a69788}, {api.Lw, both + 32, 4, both + 36, 0xfffffffff1e2d3c4}, {api.Lw, both + 48, -8, both + 40, 0x55667778},
			{api.Ld, both + 32, 0, both + 32, v}, {api.Ld, both + 32 + 2048, -2048, both + 32, v}, {api.Ld, both + 40 - 2047, 2047, both + 40, w},
			{api.Ld, 8, -16, neg(8), 0}, {api.Lw, neg(8), 4, neg(4), 0},
		} {
			m := newMem(t)
			lay(t, m, both, api.Ins{Op: l.op, Rd: 7, Rs1: 5, Imm: l.imm})
			layNumber(t, m, both+32, v)
			layNumber(t, m, both+40, w)
			s := at(both, module, l.base, 1, 99)
			c := cpu.New(m, nil, s)
			c.Step()
			if l.at >= last {
				// Behind the last region: refused, but reckoned modulo 2^64.
				wantState(t, "P5.1", c, gone(s, both, api.Broken))
			} else {
				wantState(t, "P5.1", c, with(gone(s, both+4, api.Runs), 7, l.want))
			}
			if module {
				wantLeaks(t, "P5.2", c, leakPc(both), leakAt(l.at))
			} else {
				wantLeaks(t, "P5.2", c)
			}
		}
	}
}

// TestStores: the lowest bytes lie there then, all others stay, run by both.
func TestStores(t *testing.T) {
	const v, old = uint64(0xf1e2d3c4b5a69788), uint64(0x0102030405060708)
	for _, module := range []bool{true, false} {
		for _, l := range []struct {
			op   int
			imm  int64
			at   uint64
			want uint64
		}{
			{api.Sb, 0, both + 32, 0x0102030405060788}, {api.Sb, 7, both + 39, 0x8802030405060708},
			{api.Sw, 0, both + 32, 0x01020304b5a69788}, {api.Sw, 4, both + 36, 0xb5a6978805060708},
			{api.Sd, 0, both + 32, v},
		} {
			m := newMem(t)
			lay(t, m, both, api.Ins{Op: l.op, Rs1: 5, Rs2: 6, Imm: l.imm})
			for i := uint64(24); i <= 40; i += 8 {
				layNumber(t, m, both+i, old)
			}
			s := at(both, module, both+32, v, 99)
			c := cpu.New(m, nil, s)
			c.Step()
			wantState(t, "P5.1", c, gone(s, both+4, api.Runs))
			if a, x, b := number(t, m, both+24), number(t, m, both+32), number(t, m, both+40); a != old || x != l.want || b != old {
				t.Errorf("P5.1: of operation %d at %#x: %#x, %#x, %#x; want %#x in the midst", l.op, l.at, a, x, b, l.want)
			}
			if module {
				wantLeaks(t, "P5.2", c, leakPc(both), leakAt(l.at))
			} else {
				wantLeaks(t, "P5.2", c)
			}
		}
	}
}

// TestBranches: each branch taken and not, forth and back, run by both.
func TestBranches(t *testing.T) {
	for _, module := range []bool{true, false} {
		for _, b := range []struct {
			op    int
			a, b  uint64
			taken bool
		}{
			{api.Beq, 5, 5, true}, {api.Beq, 5, 6, false}, {api.Bne, 5, 6, true}, {api.Bne, 5, 5, false},
			{api.Blt, neg(1), 0, true}, {api.Blt, 0, neg(1), false}, {api.Blt, 5, 5, false}, {api.Bge, 0, neg(1), true}, {api.Bge, 5, 5, true}, {api.Bge, neg(1), 0, false},
			{api.Bltu, 0, neg(1), true}, {api.Bltu, neg(1), 0, false}, {api.Bltu, 5, 5, false}, {api.Bgeu, neg(1), 0, true}, {api.Bgeu, 5, 5, true}, {api.Bgeu, 0, neg(1), false},
		} {
			for _, imm := range []int64{-4096, -16, -2, 0, 2, 4, 24, 4094} {
				m := newMem(t)
				lay(t, m, both+16, api.Ins{Op: b.op, Rs1: 5, Rs2: 6, Imm: imm})
				s := at(both+16, module, b.a, b.b)
				c := cpu.New(m, nil, s)
				c.Step()
				to := both + 20
				if b.taken {
					to = both + 16 + uint64(imm)
				}
				wantState(t, "P5.1", c, gone(s, to, api.Runs))
				if module {
					wantLeaks(t, "P5.2", c, leakPc(both+16))
				} else {
					wantLeaks(t, "P5.2", c)
				}
			}
		}
	}
}

// TestJumps: where a jump goes, and what its register becomes, run by both.
func TestJumps(t *testing.T) {
	for _, module := range []bool{true, false} {
		for _, j := range []struct {
			x    api.Ins
			from uint64
			a    uint64
			to   uint64
			rd   uint64
		}{
			{api.Ins{Op: api.Jal, Rd: 5, Imm: 32}, both, 9, both + 32, both + 4},
			{api.Ins{Op: api.Jal, Rd: 5, Imm: -0x100000}, both, 9, neg(0x100000) + both, both + 4},
			{api.Ins{Op: api.Jal, Rd: 5, Imm: 0xffffe}, both, 9, both + 0xffffe, both + 4},
			{api.Ins{Op: api.Jal, Rd: 5}, both, 9, both, both + 4},
			{api.Ins{Op: api.Jal, Rd: 5, Imm: 0x1000}, last + 4, 9, 0xff4, last + 8}, // wraps
			{api.Ins{Op: api.Jalr, Rd: 5, Rs1: 5, Imm: 8}, both, both + 16, both + 24, both + 4},
			{api.Ins{Op: api.Jalr, Rd: 5, Rs1: 5, Imm: 1}, both, both + 16, both + 16, both + 4},
			{api.Ins{Op: api.Jalr, Rd: 5, Rs1: 5, Imm: -1}, both, both + 16, both + 14, both + 4},
			{api.Ins{Op: api.Jalr, Rd: 5, Rs1: 5}, both, both + 17, both + 16, both + 4},
			{api.Ins{Op: api.Jalr, Rd: 5, Rs1: 5, Imm: 1}, both, both + 17, both + 18, both + 4}, // of the sum, not of its parts
			{api.Ins{Op: api.Jalr, Rd: 5, Rs1: 5, Imm: 16}, both, neg(8), 8, both + 4},           // wraps
			{api.Ins{Op: api.Jalr, Rd: 5, Rs1: 5, Imm: -1}, both, 0, neg(2), both + 4},
			{api.Ins{Op: api.Jalr, Rd: 5, Rs1: 0, Imm: 2047}, both, 77, 2046, both + 4},
		} {
			m := newMem(t)
			lay(t, m, j.from, j.x)
			s := at(j.from, module, j.a, 1)
			c := cpu.New(m, nil, s)
			c.Step()
			wantState(t, "P5.1", c, with(gone(s, j.to, api.Runs), 5, j.rd))
			wantEvents(t, "P5.2", c)
			if module {
				wantLeaks(t, "P5.2", c, leakPc(j.from))
			} else {
				wantLeaks(t, "P5.2", c)
			}
		}
	}
}

// TestJalrOfTwoRegisters: the one that it goes by is kept, where another one is written.
func TestJalrOfTwoRegisters(t *testing.T) {
	m := newMem(t)
	lay(t, m, both, api.Ins{Op: api.Jalr, Rd: 1, Rs1: 5, Imm: 4})
	s := at(both, false, both+8)
	c := cpu.New(m, nil, s)
	c.Step()
	wantState(t, "P5.1", c, with(gone(s, both+12, api.Runs), 1, both+4))
}

// TestEbreak stops where it is, by both.
func TestEbreak(t *testing.T) {
	for _, module := range []bool{true, false} {
		m := newMem(t)
		lay(t, m, both+8, api.Ins{Op: api.Ebreak})
		s := at(both+8, module, 1, 2, 3)
		c := cpu.New(m, nil, s)
		if !c.Step() {
			t.Errorf("P5.1: no step of Ebreak")
		}
		wantState(t, "P5.1", c, gone(s, both+8, api.Stopped))
		if module {
			wantLeaks(t, "P5.2", c, leakPc(both+8))
		}
		if c.Step() || c.Run(5) != 0 {
			t.Errorf("P5.1: a step of one that is Stopped")
		}
		wantState(t, "P5.1", c, gone(s, both+8, api.Stopped))
	}
}

// TestRegisterZero stays 0, whatever writes it.
func TestRegisterZero(t *testing.T) {
	for _, x := range []api.Ins{
		{Op: api.Add, Rs1: 5, Rs2: 5}, {Op: api.Div, Rs1: 5, Rs2: 6}, {Op: api.Addi, Imm: 5}, {Op: api.Lui, Imm: 4096}, {Op: api.Auipc, Imm: 4096},
		{Op: api.Lb, Rs1: 5}, {Op: api.Lbu, Rs1: 5}, {Op: api.Lw, Rs1: 5}, {Op: api.Ld, Rs1: 5},
		{Op: api.Jal, Imm: 4}, {Op: api.Jalr, Rs1: 5, Imm: 4 - 32},
	} {
		m := newMem(t)
		layNumber(t, m, both+32, neg(1))
		lay(t, m, both, x, api.Ins{Op: api.Addi, Rd: 7, Imm: 3})
		s := at(both, true, both+32, 3)
		c := cpu.New(m, nil, s)
		c.Step()
		wantState(t, "P5.1", c, gone(s, both+4, api.Runs))
		c.Step()
		wantState(t, "P5.1", c, with(gone(s, both+8, api.Runs), 7, 3))
	}
}

// TestGoingInAndOut: a context enters at an entry, the module goes out again, and in again elsewhere.
func TestGoingInAndOut(t *testing.T) {
	m := newMem(t)
	lay(t, m, out, api.Ins{Op: api.Jalr, Rd: 1, Rs1: 5}, api.Ins{Op: api.Jalr, Rd: 1, Rs1: 6}, api.Ins{Op: api.Ebreak})
	lay(t, m, own, api.Ins{Op: api.Addi, Rd: 10, Rs1: 10, Imm: 1}, api.Ins{Op: api.Jalr, Rs1: 1})
	lay(t, m, own+16, api.Ins{Op: api.Addi, Rd: 17, Rs1: 17, Imm: 2}, api.Ins{Op: api.Jalr, Rs1: 1})
	s := at(out, false, own, own+16)
	for r := range 8 {
		s.Regs[10+r] = uint64(100 + r)
	}
	s.Regs[9], s.Regs[18] = 77, 78
	c := cpu.New(m, []uint64{own + 16, own}, s)
	if n := c.Run(100); n != 7 {
		t.Errorf("P5.1: %d steps; want 7", n)
	}
	want := with(with(with(gone(s, out+8, api.Stopped), 1, out+8), 10, 101), 17, 109)
	wantState(t, "P5.1", c, want)
	wantEvents(t, "P5.2", c,
		api.Event{Enter: true, At: own, Args: [8]uint64{100, 101, 102, 103, 104, 105, 106, 107}},
		api.Event{At: out + 4, Args: [8]uint64{101, 101, 102, 103, 104, 105, 106, 107}},
		api.Event{Enter: true, At: own + 16, Args: [8]uint64{101, 101, 102, 103, 104, 105, 106, 107}},
		api.Event{At: out + 8, Args: [8]uint64{101, 101, 102, 103, 104, 105, 106, 109}})
	wantLeaks(t, "P5.2", c, leakPc(own), leakPc(own+4), leakPc(own+16), leakPc(own+20))
}

// TestWhoMayStays: where who runs may fetch, nothing changes, be it an entry.
func TestWhoMayStays(t *testing.T) {
	for _, module := range []bool{true, false} {
		m := newMem(t)
		lay(t, m, both, api.Ins{Op: api.Addi, Rd: 7, Imm: 1}, api.Ins{Op: api.Ebreak})
		c := cpu.New(m, []uint64{both, both + 4}, at(both, module))
		if n := c.Run(9); n != 2 {
			t.Errorf("P5.1: %d steps; want 2", n)
		}
		wantState(t, "P5.1", c, with(gone(at(both, module), both+4, api.Stopped), 7, 1))
		wantEvents(t, "P5.2", c)
	}
}

// TestChangeAtOnce: the state that is handed in may itself be at a change; the change is a part of the step.
func TestChangeAtOnce(t *testing.T) {
	m := newMem(t)
	lay(t, m, own, api.Ins{Op: api.Addi, Rd: 7, Imm: 1})
	lay(t, m, out, api.Ins{Op: api.Addi, Rd: 7, Imm: 1})
	in := cpu.New(m, []uint64{own}, at(own, false))
	in.Step()
	wantState(t, "P5.1", in, with(gone(at(own, true), own+4, api.Runs), 7, 1))
	wantEvents(t, "P5.2", in, api.Event{Enter: true, At: own})
	wantLeaks(t, "P5.2", in, leakPc(own))
	back := cpu.New(m, nil, at(out, true))
	back.Step()
	wantState(t, "P5.1", back, with(gone(at(out, false), out+4, api.Runs), 7, 1))
	wantEvents(t, "P5.2", back, api.Event{At: out})
	wantLeaks(t, "P5.2", back)
}

// TestRunningPastTheEnd: a module that runs on past its text leaves it wherever a context may fetch; a context that runs on into a module needs an entry there.
func TestRunningPastTheEnd(t *testing.T) {
	m, _ := mem.New([]api.Region{{Lo: own, Hi: own + 8, Own: api.Fetch}, {Lo: own + 8, Hi: own + 16, Out: api.Fetch}, {Lo: own + 16, Hi: own + 24, Own: api.Fetch}})
	lay(t, m, own, api.Ins{Op: api.Addi, Rd: 7, Imm: 1}, api.Ins{Op: api.Addi, Rd: 7, Imm: 2}, api.Ins{Op: api.Addi, Rd: 7, Imm: 3}, api.Ins{Op: api.Addi, Rd: 7, Imm: 4})
	lay(t, m, own+16, api.Ins{Op: api.Addi, Rd: 7, Imm: 5}, api.Ins{Op: api.Addi, Rd: 7, Imm: 6})
	c := cpu.New(m, []uint64{own + 16}, at(own, true))
	if n := c.Run(100); n != 7 {
		t.Errorf("P5.1: %d steps; want 7", n)
	}
	wantState(t, "P5.1", c, with(gone(at(own, true), own+24, api.Broken), 7, 6))
	wantEvents(t, "P5.2", c, api.Event{At: own + 8, Args: [8]uint64{}}, api.Event{Enter: true, At: own + 16})
	d := cpu.New(m, nil, at(own, true))
	if n := d.Run(100); n != 5 {
		t.Errorf("P5.1: %d steps; want 5", n)
	}
	wantState(t, "P5.1", d, with(gone(at(own, false), own+16, api.Broken), 7, 4))
	wantEvents(t, "P5.2", d, api.Event{At: own + 8})
	wantLeaks(t, "P5.2", d, leakPc(own), leakPc(own+4))
}

// TestWhereItMayNotGo: it breaks where it is, with nothing shown, and nothing changed.
func TestWhereItMayNotGo(t *testing.T) {
	entries := []uint64{own, own + 2, own + 5, out + 1, out, data, outData, 0, 0x5000, last + 8, neg(4), neg(2), both + 0x40}
	for _, x := range []struct {
		why    string
		pc     uint64
		module bool
	}{
		{"no multiple of 4", own + 2, false}, {"no multiple of 4", own + 2, true}, {"no multiple of 4", own + 5, false}, {"no multiple of 4", own + 5, true}, {"no multiple of 4", out + 1, true}, {"no multiple of 4", out + 2, false}, {"no multiple of 4", both + 3, true}, {"no multiple of 4", both + 3, false},
		{"in no region", 0, false}, {"in no region", 0, true}, {"in no region", 0x5000, false}, {"in no region", 0x5000, true}, {"in no region", last + 8, false}, {"in no region", last + 8, true}, {"in no region", neg(4), true}, {"in no region", neg(4), false}, {"in no region", neg(2), true}, {"in no region", both + 0x40, false},
		{"an entry that the module may not fetch", data, false}, {"an entry that the module may not fetch", outData, false},
		{"data", data, true}, {"data", outData, true},
		{"no entry", own + 4, false}, {"no entry", own + 8, false}, {"no entry", own + 0x3c, false},
	} {
		m := newMem(t)
		for i := uint64(0); i < 0x40; i += 4 {
			for _, to := range []uint64{own, data, out, outData, both} {
				lay(t, m, to+i, api.Ins{Op: api.Addi, Rd: 7, Imm: 1})
			}
		}
		s := at(x.pc, x.module, 1, 2, 3)
		c := cpu.New(m, entries, s)
		if n := c.Run(5); n != 1 {
			t.Errorf("P5.1: %s: %d steps; want 1", x.why, n)
		}
		wantState(t, "P5.1: "+x.why, c, gone(s, x.pc, api.Broken))
		wantEvents(t, "P5.2: "+x.why, c)
		wantLeaks(t, "P5.2: "+x.why, c)
		if c.Step() {
			t.Errorf("P5.1: a step of one that is Broken")
		}
		wantState(t, "P5.1: "+x.why, c, gone(s, x.pc, api.Broken))
	}
}

// TestNoInstruction: it was fetched, so that a change stays one; but nothing is shown.
func TestNoInstruction(t *testing.T) {
	for _, w := range []uint32{0, math.MaxUint32, 0x00000073, 0x00200073, 0x0000007f, 0x02002033 | 1<<12 | 1<<25} {
		if _, code := ins.Decode(w); code == api.OK {
			continue
		}
		for _, module := range []bool{true, false} {
			m := newMem(t)
			layWord(t, m, both, w)
			s := at(both, module, 1)
			c := cpu.New(m, []uint64{both}, s)
			if n := c.Run(3); n != 1 {
				t.Errorf("P5.1: %d steps of the word %#x", n, w)
			}
			wantState(t, "P5.1", c, gone(s, both, api.Broken))
			wantLeaks(t, "P5.2", c)
			wantEvents(t, "P5.2", c)
		}
		m := newMem(t)
		layWord(t, m, own, w)
		layWord(t, m, out, w)
		s := with(at(own, false), 10, 7)
		c := cpu.New(m, []uint64{own}, s)
		c.Step()
		s.Own = true
		wantState(t, "P5.1", c, gone(s, own, api.Broken))
		wantEvents(t, "P5.2", c, api.Event{Enter: true, At: own, Args: [8]uint64{7}})
		wantLeaks(t, "P5.2", c)
		s = with(at(out, true), 10, 7)
		c = cpu.New(m, []uint64{own}, s)
		c.Step()
		s.Own = false
		wantState(t, "P5.1", c, gone(s, out, api.Broken))
		wantEvents(t, "P5.2", c, api.Event{At: out, Args: [8]uint64{7}})
		wantLeaks(t, "P5.2", c)
	}
}

// TestRefusedAccesses: they break where they are, with no register and no byte changed; a module's show where they went.
func TestRefusedAccesses(t *testing.T) {
	type access struct {
		op     int
		at     uint64
		module bool
	}
	var l []access
	for op := api.Lb; op <= api.Sd; op++ {
		for _, to := range []uint64{0, data + 0x40, own, blind, neg(8), neg(1)} {
			l = append(l, access{op, to, true}) // none, or to be fetched alone
		}
		for _, to := range []uint64{0, out, own, blind, data, data + 8, neg(8)} {
			l = append(l, access{op, to, false})
		}
		if op >= api.Sb {
			l = append(l, access{op, outData, true}) // the module may only read there
		}
	}
	for _, module := range []bool{true, false} {
		for _, op := range []int{api.Lw, api.Sw} {
			l = append(l, access{op, both + 33, module}, access{op, both + 34, module}, access{op, both + 0x3e, module})
		}
		for _, op := range []int{api.Ld, api.Sd} {
			l = append(l, access{op, both + 33, module}, access{op, both + 36, module}, access{op, both + 0x3c, module})
		}
	}
	for _, a := range l {
		x := api.Ins{Op: a.op, Rs1: 5, Imm: -8}
		if a.op >= api.Sb {
			x.Rs2 = 6
		} else {
			x.Rd = 7
		}
		m := newMem(t)
		lay(t, m, both, x)
		for _, r := range table() {
			if r.Lo != both {
				layNumber(t, m, r.Lo, 0x0102030405060708)
			}
		}
		was := m.Copy()
		s := at(both, a.module, a.at+8, neg(1), 99)
		c := cpu.New(m, nil, s)
		if n := c.Run(3); n != 1 {
			t.Errorf("P5.1: %v: %d steps", a, n)
		}
		wantState(t, "P5.1", c, gone(s, both, api.Broken))
		if a.module {
			wantLeaks(t, "P5.2", c, leakPc(both), leakAt(a.at))
		} else {
			wantLeaks(t, "P5.2", c)
		}
		for _, r := range table() {
			b, _ := was.Peek(r.Lo, int(r.Hi-r.Lo))
			if now, _ := m.Peek(r.Lo, int(r.Hi-r.Lo)); !slices.Equal(now, b) {
				t.Errorf("P5.1: %v changed memory", a)
			}
		}
	}
}

// TestFetchedButNotRead: who may fetch a word need not be one who may read it.
func TestFetchedButNotRead(t *testing.T) {
	for _, module := range []bool{true, false} {
		m := newMem(t)
		lay(t, m, blind, api.Ins{Op: api.Addi, Rd: 7, Imm: 1}, api.Ins{Op: api.Lw, Rd: 7, Rs1: 5})
		s := at(blind, module, blind)
		c := cpu.New(m, nil, s)
		if n := c.Run(9); n != 2 {
			t.Errorf("P5.1: %d steps; want 2", n)
		}
		wantState(t, "P5.1", c, with(gone(s, blind+4, api.Broken), 7, 1))
	}
}

// TestEndsOfRegions: a branch, a jump and a plain step at the last instruction of a region.
func TestEndsOfRegions(t *testing.T) {
	end := both + 0x3c
	for _, x := range []struct {
		x  api.Ins
		to uint64
	}{
		{api.Ins{Op: api.Beq, Imm: -0x3c}, both}, {api.Ins{Op: api.Bne, Imm: -0x3c}, end + 4}, {api.Ins{Op: api.Beq, Imm: 4}, end + 4}, {api.Ins{Op: api.Beq, Imm: 2}, end + 2},
		{api.Ins{Op: api.Jal, Imm: -0x3c}, both}, {api.Ins{Op: api.Addi, Rd: 5, Rs1: 5}, end + 4},
	} {
		m := newMem(t)
		lay(t, m, end, x.x)
		lay(t, m, both, api.Ins{Op: api.Ebreak})
		c := cpu.New(m, nil, at(end, true, 8))
		c.Step()
		wantState(t, "P5.1", c, gone(at(end, true, 8), x.to, api.Runs))
		done := api.Broken
		if x.to == both {
			done = api.Stopped
		}
		if n := c.Run(5); n != 1 {
			t.Errorf("P5.1: %d steps; want 1", n)
		}
		wantState(t, "P5.1", c, gone(at(end, true, 8), x.to, done))
	}
}

// TestWrapping: addresses are modulo 2^64, of what it goes on at as of what is loaded.
func TestWrapping(t *testing.T) {
	m := newMem(t)
	lay(t, m, last, api.Ins{Op: api.Auipc, Rd: 7, Imm: 0x1000}, api.Ins{Op: api.Jal, Rd: 1, Imm: 0x1000 + 12})
	lay(t, m, own, api.Ins{Op: api.Lw, Rd: 8, Rs1: 5, Imm: -20}, api.Ins{Op: api.Auipc, Rd: 9, Imm: -0x3000}, api.Ins{Op: api.Jal, Rd: 11, Imm: -0x1000 - 24})
	s := at(last, true, 4)
	c := cpu.New(m, nil, s)
	if n := c.Run(5); n != 5 {
		t.Errorf("P5.1: %d steps; want 5", n)
	}
	b, _ := m.Peek(last, 4)
	w, _ := bits.Word(b)
	want := with(with(with(with(with(gone(s, last, api.Runs), 1, last+8), 7, 0xff0), 8, w), 9, neg(0x1ffc)), 11, own+12)
	wantState(t, "P5.1", c, want)
	wantLeaks(t, "P5.2", c, leakPc(last), leakPc(last+4), leakPc(own), leakAt(last), leakPc(own+4), leakPc(own+8))
}

// countdown loops as often as register 5 says, and stops: 2 steps a loop, and 1.
func countdown(t *testing.T) *mem.Mem {
	t.Helper()
	m := newMem(t)
	lay(t, m, both, api.Ins{Op: api.Addi, Rd: 5, Rs1: 5, Imm: -1}, api.Ins{Op: api.Bne, Rs1: 5, Imm: -4}, api.Ins{Op: api.Ebreak})
	return m
}

// TestFuel: it goes as far as the fuel does, and no further than it Runs.
func TestFuel(t *testing.T) {
	for _, f := range []struct {
		fuel, n int
		s       api.State
	}{
		{21, 21, gone(at(both, true), both+8, api.Stopped)},
		{22, 21, gone(at(both, true), both+8, api.Stopped)},
		{math.MaxInt, 21, gone(at(both, true), both+8, api.Stopped)},
		{20, 20, gone(at(both, true), both+8, api.Runs)},
		{19, 19, gone(at(both, true), both+4, api.Runs)},
		{1, 1, gone(at(both, true, 9), both+4, api.Runs)},
		{0, 0, at(both, true, 10)},
		{-1, 0, at(both, true, 10)},
		{math.MinInt, 0, at(both, true, 10)},
	} {
		c := cpu.New(countdown(t), nil, at(both, true, 10))
		if n := c.Run(f.fuel); n != f.n {
			t.Errorf("P5.1: Run(%d) = %d; want %d", f.fuel, n, f.n)
		}
		wantState(t, "P5.1", c, f.s)
		if n := len(c.Leaks()); n != f.n {
			t.Errorf("P5.2: %d leaks of %d steps", n, f.n)
		}
	}
}

// TestTwoGoes: a run in two goes is a run in one, wherever it is cut; so are single steps.
func TestTwoGoes(t *testing.T) {
	for cut := range 25 {
		a, b := cpu.New(countdown(t), nil, at(both, true, 10)), cpu.New(countdown(t), nil, at(both, true, 10))
		n := a.Run(23)
		first := b.Run(cut)
		if k := first + b.Run(23-cut); k != n || n != 21 {
			t.Errorf("P5.1: cut at %d: %d steps; in one go %d", cut, k, n)
		}
		wantState(t, "P5.1", b, a.State())
		wantLeaks(t, "P5.2", b, a.Leaks()...)
		wantEvents(t, "P5.2", b, a.Events()...)
	}
	c := cpu.New(countdown(t), nil, at(both, true, 10))
	steps := 0
	for c.Step() {
		steps++
	}
	if steps != 21 {
		t.Errorf("P5.1: %d single steps; want 21", steps)
	}
}

// TestStatesHandedIn: what New makes of them, be they such as no run leads to.
func TestStatesHandedIn(t *testing.T) {
	for _, d := range []struct{ done, want int }{
		{api.Runs, api.Runs}, {api.Stopped, api.Stopped}, {api.Broken, api.Broken}, {3, api.Broken}, {-1, api.Broken}, {4, api.Broken}, {math.MaxInt, api.Broken}, {math.MinInt, api.Broken}, {1 << 32, api.Broken},
	} {
		for _, module := range []bool{true, false} {
			m := newMem(t)
			lay(t, m, both, api.Ins{Op: api.Add, Rd: 7})
			s := at(both, module)
			for r := range s.Regs {
				s.Regs[r] = uint64(r) + 100
			}
			s.Done = d.done
			c := cpu.New(m, nil, s)
			s.Regs[0], s.Done = 0, d.want
			wantState(t, "P5.1", c, s)
			if n := c.Run(1); n != int(one(d.want == api.Runs)) {
				t.Errorf("P5.1: of one with Done %d: %d steps", d.done, n)
			}
			if d.want == api.Runs {
				s = with(gone(s, both+4, api.Runs), 7, 0)
			} else if c.Step() {
				t.Errorf("P5.1: of one with Done %d: a step", d.done)
			}
			wantState(t, "P5.1", c, s)
		}
	}
}

// TestShownInOrder: all that a module shows, of a step that breaks too; a context shows nothing.
func TestShownInOrder(t *testing.T) {
	program := []api.Ins{
		{Op: api.Remu, Rd: 12, Rs1: 10, Rs2: 11}, {Op: api.Sd, Rs1: 5, Rs2: 12, Imm: 8}, {Op: api.Mul, Rd: 12, Rs1: 10, Rs2: 11},
		{Op: api.Div, Rd: 10, Rs1: 10, Rs2: 10}, {Op: api.Lb, Rd: 13, Rs1: 5, Imm: 9}, {Op: api.Jal, Imm: 8}, {Op: api.Ebreak}, {Op: api.Divu, Rs1: 11}, {Op: api.Sb, Rs1: 5, Rs2: 12, Imm: -1}, {Op: api.Ebreak},
	}
	s := with(with(at(both, true, data), 10, 17), 11, 5)
	m := newMem(t)
	lay(t, m, both, program...)
	c := cpu.New(m, nil, s)
	if n := c.Run(99); n != 8 {
		t.Errorf("P5.1: %d steps; want 8", n)
	}
	wantLeaks(t, "P5.2", c, leakPc(both), leakDiv(17, 5), leakPc(both+4), leakAt(data+8), leakPc(both+8),
		leakPc(both+12), leakDiv(17, 17), leakPc(both+16), leakAt(data+9), leakPc(both+20), leakPc(both+28), leakDiv(5, 0), leakPc(both+32), leakAt(data-1))
	wantState(t, "P5.1", c, with(with(with(gone(s, both+32, api.Broken), 10, 1), 12, 85), 13, 0))
	m = newMem(t)
	lay(t, m, both, program...)
	c = cpu.New(m, nil, with(with(at(both, false, outData), 10, 17), 11, 5))
	c.Run(99)
	wantLeaks(t, "P5.2", c)
	wantEvents(t, "P5.2", c)
}

// TestItUsesItsMemory: the one that is handed in, not a copy, so that what is written to it is run.
func TestItUsesItsMemory(t *testing.T) {
	m := newMem(t)
	c := cpu.New(m, nil, at(both, true, both, 0x00500393))
	if c.Mem() != m {
		t.Errorf("P5.2: Mem is another memory")
	}
	lay(t, m, both, api.Ins{Op: api.Sw, Rs1: 5, Rs2: 6, Imm: 4}, api.Ins{Op: api.Ebreak}, api.Ins{Op: api.Ebreak})
	if n := c.Run(9); n != 3 {
		t.Errorf("P5.1: %d steps; want 3: it runs what it has stored", n)
	}
	wantState(t, "P5.1", c, with(gone(at(both, true, both, 0x00500393), both+8, api.Stopped), 7, 5))
	if b, _ := c.Mem().Peek(both+4, 4); !slices.Equal(b, []byte{0x93, 3, 0x50, 0}) {
		t.Errorf("P5.2: its memory has %v", b)
	}
}

// TestWithoutMemory: New of layer 4 gives nil beside a code; there it can fetch nothing.
func TestWithoutMemory(t *testing.T) {
	m, _ := mem.New(nil)
	c := cpu.New(m, []uint64{0}, api.State{})
	if n := c.Run(3); n != 1 || c.State().Done != api.Broken || c.Mem() != nil {
		t.Errorf("P5.1: %d steps without a memory, %v", n, c.State())
	}
}

// TestNothingIsShared: neither entries handed in nor lists handed out are what it keeps.
func TestNothingIsShared(t *testing.T) {
	m := newMem(t)
	lay(t, m, own, api.Ins{Op: api.Addi, Rd: 7, Imm: 1}, api.Ins{Op: api.Addi, Rd: 7, Imm: 1})
	entries := []uint64{out, own}
	c := cpu.New(m, entries, at(own, false))
	entries[1] = 0
	c.Step()
	wantEvents(t, "P5.1: entries written over", c, api.Event{Enter: true, At: own})
	c.Events()[0].At = 5
	c.Leaks()[0].A = 5
	wantEvents(t, "P5.2", c, api.Event{Enter: true, At: own})
	wantLeaks(t, "P5.2", c, leakPc(own))
	was := c.Leaks()
	c.Step()
	if len(was) != 1 {
		t.Errorf("P5.2: a list handed out has grown")
	}
	wantLeaks(t, "P5.2", c, leakPc(own), leakPc(own+4))
}

// TestExample is the chapter's.
func TestExample(t *testing.T) {
	m := newMem(t)
	lay(t, m, own, api.Ins{Op: api.Addi, Rd: 1, Imm: 5}, api.Ins{Op: api.Ebreak})
	c := cpu.New(m, nil, at(own, true))
	if n := c.Run(9); n != 2 {
		t.Errorf("P5.1: %d steps; want 2", n)
	}
	wantState(t, "P5.1", c, with(gone(at(own, true), own+4, api.Stopped), 1, 5))
}
