package opt_test

import (
	"fmt"
	"math/rand"
	"slices"

	"caponier/api"
)

// maker makes sources at random that are right, but that some cost too much; their worlds, and calls of them.
type maker struct {
	*rand.Rand
}

// hand is what a function's statements have at hand. Variables s, t and u may be secret; no others ever are.
type hand struct {
	m      maker
	p      api.Prog // what is ahead
	hidden map[string]bool
	f      api.Func
	loops  []string
	most   int // times of a loop
}

func (m maker) prog() api.Prog {
	var p api.Prog
	for _, name := range []string{"k", "l", "m"}[:m.Intn(4)] {
		p.Secrets = append(p.Secrets, api.Array{Name: name, Len: []int{1, 2, 3, 4, 5, 8, 64}[m.Intn(7)]})
	}
	hidden := map[string]bool{}
	for i := range 1 + m.Intn(4) {
		f := api.Func{Name: fmt.Sprint("f", i), Out: m.Intn(3) == 0}
		for _, name := range []string{"a", "b", "c", "d", "e", "g"}[:m.Intn(7)] {
			x := api.Param{Name: name, Kind: []int{api.PubWord, api.Pointer, api.SecWord}[m.Intn(3)]}
			switch {
			case x.Kind == api.Pointer:
				x.Len = []int{1, 2, 3, 4, 64}[m.Intn(5)]
			case x.Kind == api.SecWord && f.Out:
				x.Kind = api.PubWord
			case x.Kind == api.SecWord:
				x.Name = "s" + name
			}
			f.Params = append(f.Params, x)
		}
		hidden[f.Name] = !f.Out && m.Intn(2) == 0
		h := &hand{m: m, p: p, hidden: hidden, f: f, most: []int{2, 3, 5, 64}[m.Intn(4)]}
		f.Body = append(h.stmts(m.Intn(4)), api.Stmt{Kind: api.SRet, Args: []api.Expr{h.expr(3, hidden[f.Name])}})
		p.Funcs = append(p.Funcs, f)
	}
	return p
}

// params are the names of a function's parameters of a kind.
func (h *hand) params(kind int) []string {
	var l []string
	for _, x := range h.f.Params {
		if x.Kind == kind {
			l = append(l, x.Name)
		}
	}
	return l
}

func (h *hand) pick(l []string) string {
	return l[h.m.Intn(len(l))]
}

// word is a variable's name, of one that may be secret, or of one that never is.
func (h *hand) word(secret bool) string {
	if secret && h.m.Intn(4) > 0 {
		return h.pick(append([]string{"s", "t", "u"}, h.params(api.SecWord)...))
	}
	return h.pick(append([]string{"x", "y", "z", "i", "j", "f0"}, h.params(api.PubWord)...))
}

// free is a variable's name that counts in no loop around.
func (h *hand) free(secret bool) string {
	for {
		if name := h.word(secret); !slices.Contains(h.loops, name) {
			return name
		}
	}
}

func (h *hand) stmts(deep int) []api.Stmt {
	var l []api.Stmt
	for range h.m.Intn(4) {
		l = append(l, h.stmt(deep))
	}
	return l
}

func (h *hand) stmt(deep int) api.Stmt {
	pointers := h.params(api.Pointer)
	switch k := h.m.Intn(7); {
	case k == 0 && len(pointers) > 0:
		return api.Stmt{Kind: api.SPut, Name: h.pick(pointers), Args: []api.Expr{h.expr(2, false), h.expr(3, false)}}
	case k <= 1 && len(h.p.Secrets) > 0:
		return api.Stmt{Kind: api.SPut, Name: h.p.Secrets[h.m.Intn(len(h.p.Secrets))].Name, Args: []api.Expr{h.expr(2, false), h.expr(3, true)}}
	case k == 2 && deep > 0:
		return api.Stmt{Kind: api.SIf, Args: []api.Expr{h.expr(2, false)}, Then: h.stmts(deep - 1), Else: h.stmts(deep - 1)}
	case k == 3 && deep > 0:
		s := api.Stmt{Kind: api.SFor, Name: h.free(false), Num: 1 + h.m.Intn(h.most)}
		loops := h.loops
		h.loops = append(slices.Clone(loops), s.Name)
		s.Then = h.stmts(deep - 1)
		h.loops = loops
		return s
	}
	name := h.free(h.m.Intn(2) == 0)
	return api.Stmt{Kind: api.SSet, Name: name, Args: []api.Expr{h.expr(3, slices.Contains([]string{"s", "t", "u"}, name) || slices.Contains(h.params(api.SecWord), name))}}
}

// number is a small number, mostly, or one of those at which something turns.
func (m maker) number() uint64 {
	if m.Intn(3) > 0 {
		return uint64(m.Intn(6))
	}
	return []uint64{0, 1, 2, 31, 62, 63, 64, 65, 127, 1 << 32, 1<<63 - 1, 1 << 63, 1<<64 - 2, 1<<64 - 1, m.Uint64(), m.Uint64() >> (m.Uint64() % 64)}[m.Intn(16)]
}

// exprs are so many of one kind.
func (h *hand) exprs(n, deep int, secret bool) []api.Expr {
	var l []api.Expr
	for range n {
		l = append(l, h.expr(deep, secret))
	}
	return l
}

func (h *hand) expr(deep int, secret bool) api.Expr {
	arrays := h.params(api.Pointer)
	if secret {
		for _, a := range h.p.Secrets {
			arrays = append(arrays, a.Name)
		}
	}
	k := h.m.Intn(9)
	switch {
	case deep == 0 && k < 4 || k == 0:
		return api.Expr{Kind: api.ENum, Num: h.m.number()}
	case deep == 0 || k == 1:
		return api.Expr{Kind: api.EVar, Name: h.word(secret)}
	case k == 2 || k == 3:
		if len(arrays) > 0 {
			return api.Expr{Kind: api.EGet, Name: h.pick(arrays), Args: h.exprs(1, deep-1, false)}
		}
	case k == 4:
		return api.Expr{Kind: api.ESel, Args: h.exprs(3, deep-1, secret)}
	case k == 5:
		return api.Expr{Kind: api.EOpen, Args: h.exprs(1, deep-1, true)}
	case k == 6 && len(h.p.Funcs) > 0:
		if e, ok := h.call(deep, secret); ok {
			return e
		}
	}
	op := []uint64{api.Add, api.Sub, api.Sll, api.Slt, api.Sltu, api.Xor, api.Srl, api.Sra, api.Or, api.And, api.Mul, api.Divu, api.Remu}[h.m.Intn(13)]
	return api.Expr{Kind: api.EOp, Num: op, Args: h.exprs(2, deep-1, secret && op != api.Divu && op != api.Remu)}
}

// call is one of a function ahead, if there is one that may be called here, and if there are pointers for it.
func (h *hand) call(deep int, secret bool) (api.Expr, bool) {
	g := h.p.Funcs[h.m.Intn(len(h.p.Funcs))]
	e := api.Expr{Kind: api.ECall, Name: g.Name}
	if g.Out || h.hidden[g.Name] && !secret {
		return e, false
	}
	for _, x := range g.Params {
		if x.Kind != api.Pointer {
			e.Args = append(e.Args, h.expr(deep-1, x.Kind == api.SecWord))
			continue
		}
		var fit []string
		for _, y := range h.f.Params {
			if y.Kind == api.Pointer && y.Len >= x.Len {
				fit = append(fit, y.Name)
			}
		}
		if len(fit) == 0 {
			return e, false
		}
		e.Args = append(e.Args, api.Expr{Kind: api.EVar, Name: h.pick(fit)})
	}
	return e, true
}

// world is one of a source.
func (m maker) world(p api.Prog) api.World {
	var w api.World
	for _, a := range p.Secrets {
		w.Secrets = append(w.Secrets, m.words(a.Len))
	}
	w.Shared = m.words([]int{0, 1, 4, 8, 64, 70, 130, 512}[m.Intn(8)])
	return w
}

func (m maker) words(n int) []uint64 {
	var l []uint64
	for range n {
		l = append(l, m.number())
	}
	return l
}

// args are arguments of a call, if there are shared words enough; pointers lie close together, or at the edges.
func (m maker) args(f api.Func, w api.World) ([]uint64, bool) {
	var l []uint64
	for _, x := range f.Params {
		if x.Kind != api.Pointer {
			l = append(l, m.number())
			continue
		}
		last := len(w.Shared) - x.Len
		if last < 0 {
			return nil, false
		}
		l = append(l, uint64([]int{0, last, m.Intn(last + 1), min(last, m.Intn(3))}[m.Intn(4)]))
	}
	return l, true
}

// sharedAt is where the shared words lie.
const sharedAt = 1 << 24

// routines are such as may be a source's, at random, of few registers, many of which are known: some run without an end, and some touch what is no word.
func (m maker) routines(p api.Prog) []api.Routine {
	var l []api.Routine
	for _, f := range p.Funcs {
		r := api.Routine{Name: f.Name, Params: len(f.Params), Regs: len(f.Params) + 1 + m.Intn(6)}
		for range m.Intn(20) {
			r.Lines = append(r.Lines, m.lines(p, l, r)...)
		}
		labels := m.Intn(6)
		for n := range labels {
			r.Lines = slices.Insert(r.Lines, m.Intn(len(r.Lines)+1), label(uint64(n+1)))
		}
		for range labels * m.Intn(3) {
			n := uint64(1 + m.Intn(labels))
			at := m.Intn(len(r.Lines) + 1)
			r.Lines = slices.Insert(r.Lines, at, []api.Line{jump(n), zero(m.reg(r), n), zero(m.reg(r), n), zero(m.reg(r), n)}[m.Intn(4)])
			if m.Intn(3) > 0 {
				r.Lines = slices.Insert(r.Lines, at, number(m.reg(r), uint64(m.Intn(2))))
			}
		}
		r.Lines = append(r.Lines, ret(m.reg(r)))
		l = append(l, r)
	}
	return l
}

func (m maker) reg(r api.Routine) int {
	return 1 + m.Intn(r.Regs)
}

// lines are some that do one thing: mostly one line.
func (m maker) lines(p api.Prog, ahead []api.Routine, r api.Routine) []api.Line {
	d, a, b := m.reg(r), m.reg(r), m.reg(r)
	switch k := m.Intn(11); {
	case k <= 3:
		return []api.Line{number(d, m.number())}
	case k == 4:
		return []api.Line{copied(d, a)}
	case k == 5:
		return []api.Line{open(a)}
	case k == 6 && len(ahead) > 0:
		g := ahead[m.Intn(len(ahead))]
		x := call(d, g.Name)
		for range g.Params {
			x.Args = append(x.Args, m.reg(r))
		}
		return []api.Line{x}
	case k == 7 && m.Intn(3) > 0:
		return []api.Line{number(d, sharedAt+8*uint64(m.Intn(6))), []api.Line{load(a, d), store(d, a)}[m.Intn(2)]}
	case k <= 8 && len(p.Secrets) > 0:
		n := uint64(8 * m.Intn(3))
		return []api.Line{addr(d, p.Secrets[m.Intn(len(p.Secrets))].Name), number(b, n), two(api.Add, d, d, b), []api.Line{load(a, d), store(d, a)}[m.Intn(2)]}
	}
	return []api.Line{two(uint64(m.Intn(16)), d, a, b)}
}

// loose is a routine at random, most of which may be no source's: its lines have whatever a line may have, but registers beyond Regs.
func (m maker) loose() api.Routine {
	r := api.Routine{Name: []string{"", "f", "g"}[m.Intn(3)], Params: m.Intn(9) - 1, Regs: m.Intn(8)}
	reg := func() int { return m.Intn(r.Regs + 1) }
	for range m.Intn(25) {
		x := api.Line{Op: m.Intn(12), D: reg(), A: reg(), B: reg(), Num: uint64(m.Intn(5))}
		if m.Intn(3) == 0 {
			x.Op = api.LConst
		}
		if m.Intn(20) == 0 {
			x.Op = m.Intn(20) - 4
		}
		if m.Intn(4) == 0 {
			x.Num = m.number()
		}
		if x.Op == api.LTwo && m.Intn(8) > 0 {
			x.Num = uint64(m.Intn(18))
		}
		if m.Intn(2) == 0 && x.Op >= api.LStore {
			x.D = 0
		}
		for range m.Intn(3) * m.Intn(2) {
			x.Args = append(x.Args, reg())
		}
		if m.Intn(4) == 0 {
			x.Name = []string{"k", "f", "x"}[m.Intn(3)]
		}
		r.Lines = append(r.Lines, x)
	}
	return r
}
