package cpu_test

import (
	"slices"
	"testing"

	"caponier/api"
	"caponier/bits"
	"caponier/cpu"
	"caponier/ins"
	"caponier/mem"
)

// dice are numbers from 0 up to, but without, n.
type dice func() uint64

func (d dice) upTo(n int) int { return int(d() >> 16 % uint64(n)) }

func (d dice) oneOf(n int) bool { return d.upTo(n) == 0 }

// table is a few regions of 64 bytes close to one another, with gaps, at times at memory's end.
func (d dice) table() []api.Region {
	at := uint64(0x1000)
	if d.oneOf(4) {
		at = neg(0x208)
	}
	var l []api.Region
	for range 3 + d.upTo(4) {
		if d.oneOf(4) {
			at += 8
		}
		rights := []int{all, all, api.Fetch, words, api.Fetch | api.Read, 0, api.Read, api.Fetch}
		l = append(l, api.Region{Lo: at, Hi: at + 64, Own: rights[d.upTo(8)], Out: rights[d.upTo(8)]})
		at += 64
	}
	return l
}

// near is an address in a table or close to it.
func (d dice) near(l []api.Region) uint64 {
	at := l[d.upTo(len(l))].Lo + uint64(d.upTo(17))*4
	if d.oneOf(8) {
		at += uint64(d.upTo(8))
	}
	return at
}

// instruction is one of any operation, whose numbers are mostly small.
func (d dice) instruction() api.Ins {
	x := api.Ins{Op: d.upTo(api.Ebreak), Rd: d.upTo(20), Rs1: d.upTo(20), Rs2: d.upTo(20), Imm: int64(d.upTo(64) - 32)}
	if d.oneOf(100) {
		return api.Ins{Op: api.Ebreak}
	}
	switch ins.Form(x.Op) {
	case "R":
		x.Imm = 0
	case "I":
		x.Rs2 = 0
		if x.Op >= api.Slli && x.Op <= api.Srai {
			x.Imm += 32
		}
	case "S":
		x.Rd = 0
	case "B":
		x.Rd, x.Imm = 0, x.Imm*4
	case "U":
		x.Rs1, x.Rs2, x.Imm = 0, 0, x.Imm*4096
	case "J":
		x.Rs1, x.Rs2, x.Imm = 0, 0, x.Imm*4
	}
	return x
}

// word is an instruction's, or at times any.
func (d dice) word(t *testing.T) uint32 {
	if d.oneOf(60) {
		return uint32(d() >> 7)
	}
	w, code := ins.Encode(d.instruction())
	if code != api.OK {
		t.Fatalf("an instruction that may not be")
	}
	return w
}

func (d dice) state(l []api.Region) api.State {
	s := api.State{Pc: d.near(l) &^ 3, Own: d.oneOf(2)}
	for r := range s.Regs {
		switch d.upTo(8) {
		case 0:
			s.Regs[r] = d() >> d.upTo(64)
		case 1:
			s.Regs[r] = uint64(d.upTo(9)) - 4
		default:
			s.Regs[r] = d.near(l) &^ 7
		}
	}
	return s
}

// pair is a processor and the slow one, of the same memory, entries and state.
func (d dice) pair(t *testing.T) (*cpu.Cpu, *slow) {
	t.Helper()
	l := d.table()
	m, code := mem.New(l)
	if code != api.OK {
		t.Fatalf("a table that may not be: %v", l)
	}
	var entries []uint64
	for range d.upTo(5) * 8 {
		entries = append(entries, d.near(l))
	}
	s := d.state(l)
	x := newSlow(l, entries, s)
	for _, r := range l {
		for at := r.Lo; at < r.Hi; at += 4 {
			w := d.word(t)
			x.lay(at, 4, uint64(w))
			m.Poke(at, bits.Bytes(uint64(w), 4))
		}
	}
	return cpu.New(m, entries, s), x
}

// changed counts the registers that differ.
func changed(a, b api.State) int {
	n := 0
	for r := range a.Regs {
		if a.Regs[r] != b.Regs[r] {
			n++
		}
	}
	return n
}

func sameMemory(c *cpu.Cpu, x *slow) bool {
	for _, r := range x.table {
		b, _ := c.Mem().Peek(r.Lo, int(r.Hi-r.Lo))
		for i, v := range b {
			if x.held[r.Lo+uint64(i)] != v {
				return false
			}
		}
	}
	return true
}

// TestAnyWords: programs of any words, step by step beside the slow processor.
func TestAnyWords(t *testing.T) {
	d := dice(noise())
	done := [3]int{}
	for range 6000 {
		c, x := d.pair(t)
		for range 60 {
			pc := c.State().Pc
			if c.Step() != x.step() {
				t.Fatalf("P5.1: whether a step ran, at %#x", pc)
			}
			if now := c.State(); now != x.s {
				t.Fatalf("P5.1: after the step at %#x:\n%#v; want\n%#v", pc, now, x.s)
			}
		}
		if !slices.Equal(c.Events(), x.events) || !slices.Equal(c.Leaks(), x.leaks) {
			t.Fatalf("P5.2: %v, %v; want %v, %v", c.Events(), c.Leaks(), x.events, x.leaks)
		}
		if !sameMemory(c, x) {
			t.Fatalf("P5.1: memory differs")
		}
		done[x.s.Done]++
	}
	if done[api.Runs] == 0 || done[api.Stopped] == 0 || done[api.Broken] == 0 {
		t.Errorf("the programs are too much alike: %v", done)
	}
}

// TestBetweenChanges: a step writes one register at most; from one change to the next the same one runs, and they take turns.
func TestBetweenChanges(t *testing.T) {
	d := dice(noise())
	most := 0
	for range 4000 {
		c, _ := d.pair(t)
		for range 60 {
			was, seen := c.State(), len(c.Events())
			c.Step()
			now, l := c.State(), c.Events()
			if n := changed(was, now); n > 1 {
				t.Fatalf("P5.3: the step at %#x wrote %d registers", was.Pc, n)
			}
			switch {
			case len(l) == seen:
				if now.Own != was.Own {
					t.Fatalf("P5.3: another one runs from %#x on, without a change", was.Pc)
				}
			case len(l) != seen+1 || l[seen].At != was.Pc || l[seen].Enter == was.Own || l[seen].Enter != now.Own:
				t.Fatalf("P5.3: from %#x on the changes are %v", was.Pc, l)
			}
			most = max(most, len(l))
		}
	}
	if most < 3 {
		t.Errorf("no program changes often: %d", most)
	}
}
