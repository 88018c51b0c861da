package irsem_test

import (
	"slices"

	"caponier/alu"
	"caponier/api"
	"caponier/ir"
	"caponier/sem"
)

// The tests' own, slow way of doing what the chapter says: routines lie on a stack, a label is looked for wherever one jumps to it, and memory is asked for an address byte by byte.

const (
	secretsAt = 1 << 20
	sharedAt  = 1 << 24
	mostFuel  = 1 << 20
)

// slowAnswer is all that Run and Steps tell of a call.
type slowAnswer struct {
	outcome api.Outcome
	leaks   []api.Leak
	code    api.Code
	steps   int
}

// slowFrame is a routine on the stack, and the register of the one below that becomes what this returns.
type slowFrame struct {
	which, line, into int
	regs              []uint64
}

type slowMachine struct {
	l     []api.Routine
	p     api.Prog
	words map[uint64]uint64 // by the addresses of their first bytes
	stack []*slowFrame
	slowAnswer
}

// slowStart is memory as it is at first, and where arrays begin.
func slowStart(p api.Prog, w api.World) map[uint64]uint64 {
	words := map[uint64]uint64{}
	at := uint64(secretsAt)
	for i := range p.Secrets {
		for _, v := range w.Secrets[i] {
			words[at] = v
			at += 8
		}
	}
	at = sharedAt
	for _, v := range w.Shared {
		words[at] = v
		at += 8
	}
	return words
}

// slowArray is the address at which a secret array begins.
func slowArray(p api.Prog, name string) uint64 {
	at := uint64(secretsAt)
	for _, a := range p.Secrets {
		if a.Name == name {
			return at
		}
		for range a.Len {
			at += 8
		}
	}
	panic("the test is wrong: there is no array " + name)
}

func (m *slowMachine) push(which, into int, args []uint64) {
	regs := make([]uint64, m.l[which].Regs+1)
	copy(regs[1:], args)
	m.stack = append(m.stack, &slowFrame{which: which, into: into, regs: regs})
}

func (m *slowMachine) leak(kind int, a, b uint64) {
	m.leaks = append(m.leaks, api.Leak{Kind: kind, A: a, B: b})
}

// jump puts a routine at the label of this number; the step then goes on behind it.
func (m *slowMachine) jump(x *slowFrame, n uint64) {
	x.line = slices.IndexFunc(m.l[x.which].Lines, func(y api.Line) bool { return y.Op == api.LLabel && y.Num == n })
}

// touch tells whether a word begins at an address, which is shown.
func (m *slowMachine) touch(at uint64) bool {
	m.leak(api.LeakAt, at, 0)
	_, ok := m.words[at]
	return ok
}

// step does the line that comes next; false: it may not be done.
func (m *slowMachine) step() bool {
	x := m.stack[len(m.stack)-1]
	y := m.l[x.which].Lines[x.line]
	r := x.regs
	m.steps++
	m.leak(api.LeakPc, uint64(x.which), uint64(x.line))
	switch y.Op {
	case api.LConst:
		r[y.D] = y.Num
	case api.LTwo:
		if y.Num == api.Div || y.Num == api.Divu || y.Num == api.Rem || y.Num == api.Remu {
			m.leak(api.LeakDiv, r[y.A], r[y.B])
		}
		r[y.D], _ = alu.Two(int(y.Num), r[y.A], r[y.B])
	case api.LCopy:
		r[y.D] = r[y.A]
	case api.LAddr:
		r[y.D] = slowArray(m.p, y.Name)
	case api.LLoad:
		if !m.touch(r[y.A]) {
			return false
		}
		r[y.D] = m.words[r[y.A]]
	case api.LStore:
		if !m.touch(r[y.A]) {
			return false
		}
		m.words[r[y.A]] = r[y.B]
	case api.LJump:
		m.jump(x, y.Num)
	case api.LZero:
		if r[y.A] == 0 {
			m.jump(x, y.Num)
		}
	case api.LOpen:
		m.outcome.Opened = append(m.outcome.Opened, r[y.A])
	case api.LCall, api.LRet:
		m.change(x, y)
	}
	x.line++
	return true
}

// change puts a routine on the stack, or takes one from it.
func (m *slowMachine) change(x *slowFrame, y api.Line) {
	if y.Op == api.LCall {
		var args []uint64
		for _, a := range y.Args {
			args = append(args, x.regs[a])
		}
		m.push(slices.IndexFunc(m.l, func(g api.Routine) bool { return g.Name == y.Name }), y.D, args)
		return
	}
	m.stack = m.stack[:len(m.stack)-1]
	if n := len(m.stack); n > 0 {
		m.stack[n-1].regs[x.into] = x.regs[y.A]
	} else {
		m.outcome.Value = x.regs[y.A]
	}
}

// slowRun is what a call comes to, and all that it shows.
func slowRun(l []api.Routine, p api.Prog, f int, args []uint64, w api.World, fuel int) slowAnswer {
	if !ir.May(l, p) || !sem.May(p, f, args, w) {
		return slowAnswer{code: api.Arg, steps: -1}
	}
	m := &slowMachine{l: l, p: p, words: slowStart(p, w)}
	given := slices.Clone(args)
	for i, x := range p.Funcs[f].Params {
		if x.Kind == api.Pointer {
			given[i] = sharedAt + 8*given[i]
		}
	}
	m.push(f, 0, given)
	for len(m.stack) > 0 {
		if m.steps >= fuel || m.steps == mostFuel {
			return slowAnswer{code: api.Fuel, steps: -1}
		}
		if !m.step() {
			return slowAnswer{code: api.Refused, steps: -1}
		}
	}
	for _, a := range p.Secrets {
		var words []uint64
		for i := range a.Len {
			words = append(words, m.words[slowArray(p, a.Name)+8*uint64(i)])
		}
		m.outcome.World.Secrets = append(m.outcome.World.Secrets, words)
	}
	for i := range w.Shared {
		m.outcome.World.Shared = append(m.outcome.World.Shared, m.words[sharedAt+8*uint64(i)])
	}
	return m.slowAnswer
}
