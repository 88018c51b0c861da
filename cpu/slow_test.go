package cpu_test

import (
	"math/bits"

	"caponier/api"
	"caponier/ins"
)

// slow is a processor as the chapter tells it, byte by byte, with nothing of the program but how words are read.
type slow struct {
	table   []api.Region
	held    map[uint64]byte
	entries map[uint64]int
	s       api.State
	events  []api.Event
	leaks   []api.Leak
}

func newSlow(table []api.Region, entries []uint64, s api.State) *slow {
	m := &slow{table: table, held: map[uint64]byte{}, entries: map[uint64]int{}, s: s}
	for _, e := range entries {
		m.entries[e]++
	}
	m.s.Regs[0] = 0
	if s.Done < 0 || s.Done > 2 {
		m.s.Done = 2
	}
	return m
}

// may tells whether an access is allowed.
func (m *slow) may(at, n uint64, own bool, right int) bool {
	if at%n != 0 {
		return false
	}
	for _, r := range m.table {
		if at >= r.Lo && at < r.Hi && at+n-1 < r.Hi && at+n-1 >= at {
			if own {
				return r.Own&right != 0
			}
			return r.Out&right != 0
		}
	}
	return false
}

func (m *slow) number(at, n uint64) uint64 {
	v := uint64(0)
	for i := n; i > 0; i-- {
		v = v*256 + uint64(m.held[at+i-1])
	}
	return v
}

func (m *slow) lay(at, n, v uint64) {
	for i := range n {
		m.held[at+i] = byte(v >> (8 * i))
	}
}

func (m *slow) step() bool {
	if m.s.Done != 0 {
		return false
	}
	pc := m.s.Pc
	if !m.may(pc, 4, m.s.Own, 4) {
		if !m.may(pc, 4, !m.s.Own, 4) || !m.s.Own && m.entries[pc] == 0 {
			m.s.Done = 2
			return true
		}
		m.s.Own = !m.s.Own
		e := api.Event{Enter: m.s.Own, At: pc}
		for i := range 8 {
			e.Args[i] = m.s.Regs[10+i]
		}
		m.events = append(m.events, e)
	}
	x, code := ins.Decode(uint32(m.number(pc, 4)))
	if code != api.OK {
		m.s.Done = 2
		return true
	}
	m.leak(api.LeakPc, pc, 0)
	m.do(x)
	m.s.Regs[0] = 0
	return true
}

func (m *slow) leak(kind int, a, b uint64) {
	if m.s.Own {
		m.leaks = append(m.leaks, api.Leak{Kind: kind, A: a, B: b})
	}
}

func (m *slow) do(x api.Ins) {
	pc, a, b, imm := m.s.Pc, m.s.Regs[x.Rs1], m.s.Regs[x.Rs2], uint64(x.Imm)
	next := pc + 4
	switch x.Op {
	case api.Ebreak:
		m.s.Done, next = 1, pc
	case api.Lui:
		m.s.Regs[x.Rd] = imm
	case api.Auipc:
		m.s.Regs[x.Rd] = pc + imm
	case api.Jal:
		m.s.Regs[x.Rd], next = pc+4, pc+imm
	case api.Jalr:
		m.s.Regs[x.Rd], next = pc+4, (a+imm)/2*2
	case api.Beq, api.Bne, api.Blt, api.Bge, api.Bltu, api.Bgeu:
		if slowTaken(x.Op, a, b) {
			next = pc + imm
		}
	case api.Lb, api.Lbu, api.Lw, api.Ld, api.Sb, api.Sw, api.Sd:
		if !m.touch(x, a+imm, b) {
			m.s.Done, next = 2, pc
		}
	default:
		if x.Op >= api.Div && x.Op <= api.Remu {
			m.leak(api.LeakDiv, a, b)
		}
		if x.Op >= api.Addi {
			b = imm
		}
		m.s.Regs[x.Rd] = slowTwo(x.Op, a, b)
	}
	m.s.Pc = next
}

func (m *slow) touch(x api.Ins, at, v uint64) bool {
	n := map[int]uint64{api.Lb: 1, api.Lbu: 1, api.Lw: 4, api.Ld: 8, api.Sb: 1, api.Sw: 4, api.Sd: 8}[x.Op]
	m.leak(api.LeakAt, at, 0)
	if x.Op >= api.Sb {
		if !m.may(at, n, m.s.Own, 2) {
			return false
		}
		m.lay(at, n, v)
		return true
	}
	if !m.may(at, n, m.s.Own, 1) {
		return false
	}
	v = m.number(at, n)
	switch x.Op {
	case api.Lb:
		v = uint64(int8(v))
	case api.Lw:
		v = uint64(int32(v))
	}
	m.s.Regs[x.Rd] = v
	return true
}

func slowTaken(op int, a, b uint64) bool {
	switch op {
	case api.Beq:
		return a == b
	case api.Bne:
		return a != b
	case api.Blt:
		return int64(a) < int64(b)
	case api.Bge:
		return int64(a) >= int64(b)
	case api.Bltu:
		return a < b
	}
	return a >= b
}

func one(is bool) uint64 {
	if is {
		return 1
	}
	return 0
}

func slowTwo(op int, a, b uint64) uint64 {
	switch op {
	case api.Add, api.Addi:
		return a + b
	case api.Sub:
		return a - b
	case api.Sll, api.Slli:
		return a << (b % 64)
	case api.Slt, api.Slti:
		return one(int64(a) < int64(b))
	case api.Sltu, api.Sltiu:
		return one(a < b)
	case api.Xor, api.Xori:
		return a ^ b
	case api.Srl, api.Srli:
		return a >> (b % 64)
	case api.Sra, api.Srai:
		return uint64(int64(a) >> (b % 64))
	case api.Or, api.Ori:
		return a | b
	case api.And, api.Andi:
		return a & b
	case api.Mul:
		return a * b
	case api.Mulhu:
		h, _ := bits.Mul64(a, b)
		return h
	}
	return slowDivision(op, a, b)
}

func slowDivision(op int, a, b uint64) uint64 {
	quotient := op == api.Div || op == api.Divu
	switch {
	case b == 0 && quotient:
		return 1<<64 - 1
	case b == 0:
		return a
	case op == api.Div:
		return uint64(int64(a) / int64(b))
	case op == api.Rem:
		return uint64(int64(a) % int64(b))
	case quotient:
		return a / b
	}
	return a % b
}
