package sem_test

import (
	"fmt"
	"math/big"
	"math/rand"
	"slices"

	"caponier/api"
)

// The tests' own, slow way of doing what the chapter says: each function is written out as a row of steps, its loops unrolled, and these work on a stack, with numbers without bounds. And sources that are made at random.

// step is one of a row: what it does, with a name, or a number.
type step struct {
	do   string
	name string
	n    uint64
}

func slowStmts(l []api.Stmt) []step {
	var steps []step
	for _, s := range l {
		steps = append(steps, slowStmt(s)...)
	}
	return steps
}

func slowStmt(s api.Stmt) []step {
	steps := slowExprs(s.Args)
	switch s.Kind {
	case api.SSet:
		return append(steps, step{do: "set", name: s.Name})
	case api.SPut:
		return append(steps, step{do: "put", name: s.Name})
	case api.SIf:
		yes, no := slowStmts(s.Then), slowStmts(s.Else)
		yes = append(yes, step{do: "skip", n: uint64(len(no))})
		return slices.Concat(steps, []step{{do: "skip if 0", n: uint64(len(yes))}}, yes, no)
	case api.SFor:
		body := slowStmts(s.Then)
		for i := range s.Num {
			steps = append(steps, step{do: "push", n: uint64(i)}, step{do: "set", name: s.Name})
			steps = append(steps, body...)
		}
		return steps
	}
	return append(steps, step{do: "return"})
}

func slowExprs(l []api.Expr) []step {
	var steps []step
	for _, e := range l {
		steps = append(steps, slowExprs(e.Args)...)
		do := map[int]string{api.ENum: "push", api.EVar: "read", api.EGet: "get", api.EOp: "reckon", api.ESel: "choose", api.ECall: "call", api.EOpen: "open"}[e.Kind]
		steps = append(steps, step{do: do, name: e.Name, n: e.Num})
	}
	return steps
}

// slowFrame is a function that waits, or runs.
type slowFrame struct {
	f     api.Func
	vars  map[string]uint64
	steps []step
	at    int
}

// slowMachine is all that changes in a run.
type slowMachine struct {
	p      api.Prog
	w      api.World
	stack  []uint64
	frames []*slowFrame
	opened []uint64
}

func copied(w api.World) api.World {
	c := api.World{Shared: append([]uint64{}, w.Shared...)}
	for _, l := range w.Secrets {
		c.Secrets = append(c.Secrets, append([]uint64{}, l...))
	}
	return c
}

func (m *slowMachine) pop(n int) []uint64 {
	at := len(m.stack) - n
	l := slices.Clone(m.stack[at:])
	m.stack = m.stack[:at]
	return l
}

func (m *slowMachine) push(v uint64) {
	m.stack = append(m.stack, v)
}

// enter begins a function, whose arguments lie on the stack.
func (m *slowMachine) enter(f api.Func) {
	x := &slowFrame{f: f, vars: map[string]uint64{}, steps: slowStmts(f.Body)}
	for i, v := range m.pop(len(f.Params)) {
		x.vars[f.Params[i].Name] = v
	}
	m.frames = append(m.frames, x)
}

// word is where an element lies: the list, and its number there.
func (m *slowMachine) word(x *slowFrame, name string, index uint64) ([]uint64, int) {
	modulo := func(n int) int {
		return int(new(big.Int).Mod(unsigned(index), big.NewInt(int64(n))).Int64())
	}
	for i, a := range m.p.Secrets {
		if a.Name == name {
			return m.w.Secrets[i], modulo(a.Len)
		}
	}
	for _, a := range x.f.Params {
		if a.Name == name {
			return m.w.Shared, int(x.vars[name]) + modulo(a.Len)
		}
	}
	panic("no such array: " + name)
}

func (m *slowMachine) step() {
	x := m.frames[len(m.frames)-1]
	s := x.steps[x.at]
	x.at++
	switch s.do {
	case "push":
		m.push(s.n)
	case "read":
		m.push(x.vars[s.name])
	case "get":
		l, at := m.word(x, s.name, m.pop(1)[0])
		m.push(l[at])
	case "reckon":
		a := m.pop(2)
		m.push(slowReckon(s.n, a[0], a[1]))
	case "choose":
		a := m.pop(3)
		if a[0] == 0 {
			a[1] = a[2]
		}
		m.push(a[1])
	case "call":
		m.enter(m.p.Funcs[slices.IndexFunc(m.p.Funcs, func(f api.Func) bool { return f.Name == s.name })])
	case "open":
		m.opened = append(m.opened, m.stack[len(m.stack)-1])
	case "set":
		x.vars[s.name] = m.pop(1)[0]
	case "put":
		a := m.pop(2)
		l, at := m.word(x, s.name, a[0])
		l[at] = a[1]
	case "skip if 0":
		if m.pop(1)[0] == 0 {
			x.at += int(s.n)
		}
	case "skip":
		x.at += int(s.n)
	case "return":
		m.frames = m.frames[:len(m.frames)-1]
	}
}

// slowRun is what a call comes to that may be.
func slowRun(p api.Prog, f int, args []uint64, w api.World) api.Outcome {
	m := &slowMachine{p: p, w: copied(w), stack: slices.Clone(args)}
	for m.enter(p.Funcs[f]); len(m.frames) > 0; {
		m.step()
	}
	return api.Outcome{Value: m.pop(1)[0], Opened: m.opened, World: m.w}
}

func unsigned(v uint64) *big.Int {
	return new(big.Int).SetUint64(v)
}

func power(n uint64) *big.Int {
	return new(big.Int).Lsh(big.NewInt(1), uint(n))
}

func less(a, b *big.Int) *big.Int {
	if a.Cmp(b) < 0 {
		return big.NewInt(1)
	}
	return new(big.Int)
}

// slowReckon is what an operation does of both, in numbers without bounds.
func slowReckon(op, a, b uint64) uint64 {
	x, y, r := unsigned(a), unsigned(b), new(big.Int)
	switch op {
	case api.Add:
		r.Add(x, y)
	case api.Sub:
		r.Sub(x, y)
	case api.Sll:
		r.Mul(x, power(b%64))
	case api.Slt:
		r = less(big.NewInt(int64(a)), big.NewInt(int64(b)))
	case api.Sltu:
		r = less(x, y)
	case api.Xor:
		r.Xor(x, y)
	case api.Srl:
		r.Div(x, power(b%64))
	case api.Sra:
		r.Div(big.NewInt(int64(a)), power(b%64)) // rounds down
	case api.Or:
		r.Or(x, y)
	case api.And:
		r.And(x, y)
	case api.Mul:
		r.Mul(x, y)
	case api.Divu:
		r.Sub(power(64), big.NewInt(1))
		if b != 0 {
			r.Div(x, y)
		}
	case api.Remu:
		r.Set(x)
		if b != 0 {
			r.Mod(x, y)
		}
	default:
		panic("no such operation")
	}
	return r.Mod(r, power(64)).Uint64()
}

// maker makes sources at random that are right, but that some cost too much; their worlds, and calls of them.
type maker struct {
	*rand.Rand
}

// hand is what a function's statements have at hand. Variables s, t and u may be secret; no others ever are.
type hand struct {
	m      maker
	p      api.Prog // what is ahead
	hidden map[string]bool
	f      api.Func
	loops  []string
	most   int // times of a loop
}

func (m maker) prog() api.Prog {
	var p api.Prog
	for _, name := range []string{"k", "l", "m"}[:m.Intn(4)] {
		p.Secrets = append(p.Secrets, api.Array{Name: name, Len: []int{1, 2, 3, 4, 5, 8, 64}[m.Intn(7)]})
	}
	hidden := map[string]bool{}
	for i := range 1 + m.Intn(4) {
		f := api.Func{Name: fmt.Sprint("f", i), Out: m.Intn(3) == 0}
		for _, name := range []string{"a", "b", "c", "d", "e", "g"}[:m.Intn(7)] {
			x := api.Param{Name: name, Kind: []int{api.PubWord, api.Pointer, api.SecWord}[m.Intn(3)]}
			switch {
			case x.Kind == api.Pointer:
				x.Len = []int{1, 2, 3, 4, 64}[m.Intn(5)]
			case x.Kind == api.SecWord && f.Out:
				x.Kind = api.PubWord
			case x.Kind == api.SecWord:
				x.Name = "s" + name
			}
			f.Params = append(f.Params, x)
		}
		hidden[f.Name] = !f.Out && m.Intn(2) == 0
		h := &hand{m: m, p: p, hidden: hidden, f: f, most: []int{2, 3, 5, 64}[m.Intn(4)]}
		f.Body = append(h.stmts(m.Intn(4)), api.Stmt{Kind: api.SRet, Args: []api.Expr{h.expr(3, hidden[f.Name])}})
		p.Funcs = append(p.Funcs, f)
	}
	return p
}

// params are the names of a function's parameters of a kind.
func (h *hand) params(kind int) []string {
	var l []string
	for _, x := range h.f.Params {
		if x.Kind == kind {
			l = append(l, x.Name)
		}
	}
	return l
}

func (h *hand) pick(l []string) string {
	return l[h.m.Intn(len(l))]
}

// word is a variable's name, of one that may be secret, or of one that never is.
func (h *hand) word(secret bool) string {
	if secret && h.m.Intn(4) > 0 {
		return h.pick(append([]string{"s", "t", "u"}, h.params(api.SecWord)...))
	}
	return h.pick(append([]string{"x", "y", "z", "i", "j"}, h.params(api.PubWord)...))
}

// free is a variable's name that counts in no loop around.
func (h *hand) free(secret bool) string {
	for {
		if name := h.word(secret); !slices.Contains(h.loops, name) {
			return name
		}
	}
}

func (h *hand) stmts(deep int) []api.Stmt {
	var l []api.Stmt
	for range 1 + h.m.Intn(3) {
		l = append(l, h.stmt(deep))
	}
	return l
}

func (h *hand) stmt(deep int) api.Stmt {
	pointers := h.params(api.Pointer)
	switch k := h.m.Intn(7); {
	case k == 0 && len(pointers) > 0:
		return api.Stmt{Kind: api.SPut, Name: h.pick(pointers), Args: []api.Expr{h.expr(2, false), h.expr(3, false)}}
	case k <= 1 && len(h.p.Secrets) > 0:
		return api.Stmt{Kind: api.SPut, Name: h.p.Secrets[h.m.Intn(len(h.p.Secrets))].Name, Args: []api.Expr{h.expr(2, false), h.expr(3, true)}}
	case k == 2 && deep > 0:
		return api.Stmt{Kind: api.SIf, Args: []api.Expr{h.expr(2, false)}, Then: h.stmts(deep - 1), Else: h.stmts(deep - 1)}
	case k == 3 && deep > 0:
		s := api.Stmt{Kind: api.SFor, Name: h.free(false), Num: 1 + h.m.Intn(h.most)}
		loops := h.loops
		h.loops = append(slices.Clone(loops), s.Name)
		s.Then = h.stmts(deep - 1)
		h.loops = loops
		return s
	}
	name := h.free(h.m.Intn(2) == 0)
	return api.Stmt{Kind: api.SSet, Name: name, Args: []api.Expr{h.expr(3, slices.Contains([]string{"s", "t", "u"}, name) || slices.Contains(h.params(api.SecWord), name))}}
}

// number is a small number, mostly, or one of those at which something turns.
func (m maker) number() uint64 {
	if m.Intn(3) > 0 {
		return uint64(m.Intn(6))
	}
	return []uint64{0, 1, 2, 31, 62, 63, 64, 65, 127, 1 << 32, 1<<63 - 1, 1 << 63, 1<<64 - 2, 1<<64 - 1, m.Uint64(), m.Uint64() >> (m.Uint64() % 64)}[m.Intn(16)]
}

// exprs are so many of one kind.
func (h *hand) exprs(n, deep int, secret bool) []api.Expr {
	var l []api.Expr
	for range n {
		l = append(l, h.expr(deep, secret))
	}
	return l
}

func (h *hand) expr(deep int, secret bool) api.Expr {
	arrays := h.params(api.Pointer)
	if secret {
		for _, a := range h.p.Secrets {
			arrays = append(arrays, a.Name)
		}
	}
	k := h.m.Intn(9)
	switch {
	case deep == 0 && k < 4 || k == 0:
		return api.Expr{Kind: api.ENum, Num: h.m.number()}
	case deep == 0 || k == 1:
		return api.Expr{Kind: api.EVar, Name: h.word(secret)}
	case k == 2 || k == 3:
		if len(arrays) > 0 {
			return api.Expr{Kind: api.EGet, Name: h.pick(arrays), Args: h.exprs(1, deep-1, false)}
		}
	case k == 4:
		return api.Expr{Kind: api.ESel, Args: h.exprs(3, deep-1, secret)}
	case k == 5:
		return api.Expr{Kind: api.EOpen, Args: h.exprs(1, deep-1, true)}
	case k == 6 && len(h.p.Funcs) > 0:
		if e, ok := h.call(deep, secret); ok {
			return e
		}
	}
	op := []uint64{api.Add, api.Sub, api.Sll, api.Slt, api.Sltu, api.Xor, api.Srl, api.Sra, api.Or, api.And, api.Mul, api.Divu, api.Remu}[h.m.Intn(13)]
	return api.Expr{Kind: api.EOp, Num: op, Args: h.exprs(2, deep-1, secret && op != api.Divu && op != api.Remu)}
}

// call is one of a function ahead, if there is one that may be called here, and if there are pointers for it.
func (h *hand) call(deep int, secret bool) (api.Expr, bool) {
	g := h.p.Funcs[h.m.Intn(len(h.p.Funcs))]
	e := api.Expr{Kind: api.ECall, Name: g.Name}
	if g.Out || h.hidden[g.Name] && !secret {
		return e, false
	}
	for _, x := range g.Params {
		if x.Kind != api.Pointer {
			e.Args = append(e.Args, h.expr(deep-1, x.Kind == api.SecWord))
			continue
		}
		var fit []string
		for _, y := range h.f.Params {
			if y.Kind == api.Pointer && y.Len >= x.Len {
				fit = append(fit, y.Name)
			}
		}
		if len(fit) == 0 {
			return e, false
		}
		e.Args = append(e.Args, api.Expr{Kind: api.EVar, Name: h.pick(fit)})
	}
	return e, true
}

// world is one of a source.
func (m maker) world(p api.Prog) api.World {
	var w api.World
	for _, a := range p.Secrets {
		w.Secrets = append(w.Secrets, m.words(a.Len))
	}
	w.Shared = m.words([]int{0, 1, 4, 8, 64, 70, 130, 512}[m.Intn(8)])
	return w
}

func (m maker) words(n int) []uint64 {
	var l []uint64
	for range n {
		l = append(l, m.number())
	}
	return l
}

// args are arguments of a call, if there are shared words enough; pointers lie close together, or at the edges.
func (m maker) args(f api.Func, w api.World) ([]uint64, bool) {
	var l []uint64
	for _, x := range f.Params {
		if x.Kind != api.Pointer {
			l = append(l, m.number())
			continue
		}
		last := len(w.Shared) - x.Len
		if last < 0 {
			return nil, false
		}
		l = append(l, uint64([]int{0, last, m.Intn(last + 1), min(last, m.Intn(3))}[m.Intn(4)]))
	}
	return l, true
}
