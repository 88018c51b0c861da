package sec_test

import (
	"fmt"
	"math/big"
	"math/rand"
	"slices"

	"caponier/api"
	"caponier/tree"
)

// The tests' own, slow way of doing what the chapter says, for all that the layer is held against, and sources that are made at random.

// visit goes to all statements, with the loops' variables around each, and to all expressions, place by place.
func visit(l []api.Stmt, loops []string, stmt func(s api.Stmt, loops []string), expr func(e api.Expr)) {
	for _, s := range l {
		stmt(s, loops)
		visitExprs(s.Args, expr)
		around := loops
		if s.Kind == api.SFor {
			around = append(slices.Clone(loops), s.Name)
		}
		visit(s.Then, around, stmt, expr)
		visit(s.Else, around, stmt, expr)
	}
}

func visitExprs(l []api.Expr, expr func(e api.Expr)) {
	for _, e := range l {
		expr(e)
		visitExprs(e.Args, expr)
	}
}

// slowSecretArray is how many words a secret array has, 0 if there is none of that name.
func slowSecretArray(p api.Prog, name string) int {
	for _, a := range p.Secrets {
		if a.Name == name {
			return a.Len
		}
	}
	return 0
}

// slowPointer is at how many words a pointer points, 0 if there is none of that name.
func slowPointer(f api.Func, name string) int {
	for _, x := range f.Params {
		if x.Kind == api.Pointer && x.Name == name {
			return x.Len
		}
	}
	return 0
}

// slowArray tells whether a name is an array's of a function.
func slowArray(p api.Prog, f api.Func, name string) bool {
	return slowSecretArray(p, name) > 0 || slowPointer(f, name) > 0
}

// slowTwice tells whether a name is there twice that may not be.
func slowTwice(p api.Prog) bool {
	var secrets []string
	for _, a := range p.Secrets {
		secrets = append(secrets, a.Name)
	}
	items := slices.Clone(secrets)
	twice := false
	for _, f := range p.Funcs {
		items = append(items, f.Name)
		own := slices.Clone(secrets)
		for _, x := range f.Params {
			own = append(own, x.Name)
		}
		twice = twice || doubled(own)
	}
	return twice || doubled(items)
}

func doubled(l []string) bool {
	for i := range l {
		if slices.Contains(l[:i], l[i]) {
			return true
		}
	}
	return false
}

// slowCalled is the number of the function that may be called by a name, -1 if there is none.
func slowCalled(p api.Prog, f int, name string) int {
	return slices.IndexFunc(p.Funcs[:f], func(g api.Func) bool { return g.Name == name && !g.Out })
}

// slowUndefined tells whether a function names what isn't there.
func slowUndefined(p api.Prog, f int) bool {
	wrong := false
	visit(p.Funcs[f].Body, nil, func(s api.Stmt, _ []string) {
		wrong = wrong || s.Kind == api.SPut && !slowArray(p, p.Funcs[f], s.Name)
	}, func(e api.Expr) {
		wrong = wrong || e.Kind == api.EGet && !slowArray(p, p.Funcs[f], e.Name)
		wrong = wrong || e.Kind == api.ECall && slowCalled(p, f, e.Name) < 0
	})
	return wrong
}

// slowTyped tells whether something in a function is of a wrong kind.
func slowTyped(p api.Prog, f int) bool {
	x := p.Funcs[f]
	named, given, fitting, returned := 0, 0, 0, 0 // arrays that EVars name; those that are given as pointers
	wrong := false
	count := func(e api.Expr) {
		if e.Kind == api.EVar && slowArray(p, x, e.Name) {
			named++
		}
		if e.Kind != api.ECall {
			return
		}
		params := p.Funcs[slowCalled(p, f, e.Name)].Params
		wrong = wrong || len(params) != len(e.Args)
		for i := 0; i < len(params) && i < len(e.Args); i++ {
			if params[i].Kind != api.Pointer {
				continue
			}
			given++
			if a := e.Args[i]; a.Kind == api.EVar && slowPointer(x, a.Name) >= params[i].Len {
				fitting++
			}
		}
	}
	visit(x.Body, nil, func(s api.Stmt, loops []string) {
		if s.Kind == api.SSet || s.Kind == api.SFor {
			wrong = wrong || slowArray(p, x, s.Name) || slices.Contains(loops, s.Name)
		}
		if s.Kind == api.SRet {
			returned++
		}
	}, count)
	for _, a := range x.Params {
		wrong = wrong || x.Out && a.Kind == api.SecWord
	}
	n := len(x.Body)
	return wrong || n == 0 || x.Body[n-1].Kind != api.SRet || returned != 1 || given != fitting || named != fitting
}

// secrets is what is secret in a function, and of those ahead of it.
type secrets struct {
	p       api.Prog
	f       api.Func
	vars    map[string]bool
	results map[string]bool
}

// expr tells whether an expression is secret.
func (x secrets) expr(e api.Expr) bool {
	switch e.Kind {
	case api.EVar:
		return x.vars[e.Name]
	case api.EGet:
		return slowSecretArray(x.p, e.Name) > 0
	case api.EOp, api.ESel:
		return slices.ContainsFunc(e.Args, x.expr)
	case api.ECall:
		return x.results[e.Name]
	}
	return false
}

// slowSecrets sets variables to what they are set to, again and again.
func slowSecrets(p api.Prog, f api.Func, results map[string]bool) secrets {
	x := secrets{p: p, f: f, vars: map[string]bool{}, results: results}
	for _, a := range f.Params {
		if a.Kind == api.SecWord {
			x.vars[a.Name] = true
		}
	}
	for n := -1; n != len(x.vars); {
		n = len(x.vars)
		visit(f.Body, nil, func(s api.Stmt, _ []string) {
			if s.Kind == api.SSet && x.expr(s.Args[0]) {
				x.vars[s.Name] = true
			}
		}, func(api.Expr) {})
	}
	return x
}

// result tells whether what is returned is secret.
func (x secrets) result() bool {
	return x.expr(x.f.Body[len(x.f.Body)-1].Args[0])
}

// told tells whether something secret is where none may be.
func (x secrets) told() bool {
	wrong := x.f.Out && x.result()
	visit(x.f.Body, nil, func(s api.Stmt, _ []string) {
		switch s.Kind {
		case api.SIf:
			wrong = wrong || x.expr(s.Args[0])
		case api.SPut:
			wrong = wrong || x.expr(s.Args[0]) || slowPointer(x.f, s.Name) > 0 && x.expr(s.Args[1])
		}
	}, func(e api.Expr) {
		switch e.Kind {
		case api.EGet:
			wrong = wrong || x.expr(e.Args[0])
		case api.EOp:
			wrong = wrong || (e.Num == 13 || e.Num == 15) && slices.ContainsFunc(e.Args, x.expr)
		case api.ECall:
			for i, a := range x.p.Funcs[slowCalled(x.p, len(x.p.Funcs), e.Name)].Params {
				wrong = wrong || a.Kind == api.PubWord && x.expr(e.Args[i])
			}
		}
	})
	return wrong
}

// slowStmtsCost is what statements cost, in numbers that don't wrap.
func slowStmtsCost(l []api.Stmt, costs map[string]*big.Int) *big.Int {
	sum := new(big.Int)
	for _, s := range l {
		inner := slowStmtsCost(s.Then, costs)
		if s.Kind == api.SFor {
			inner.Add(inner, big.NewInt(1))
			inner.Mul(inner, big.NewInt(int64(s.Num)))
		}
		sum.Add(sum, big.NewInt(1))
		sum.Add(sum, slowExprsCost(s.Args, costs))
		sum.Add(sum, inner)
		sum.Add(sum, slowStmtsCost(s.Else, costs))
	}
	return sum
}

func slowExprsCost(l []api.Expr, costs map[string]*big.Int) *big.Int {
	sum := new(big.Int)
	for _, e := range l {
		sum.Add(sum, big.NewInt(1))
		sum.Add(sum, slowExprsCost(e.Args, costs))
		if e.Kind == api.ECall {
			sum.Add(sum, costs[e.Name])
		}
	}
	return sum
}

// told is what is told of a function.
type told struct {
	secrets []string
	result  bool
	cost    int
}

// slowSec is a source's code, and what is told of its functions.
func slowSec(p api.Prog) (api.Code, []told) {
	if _, e := tree.Print(p); e != api.OK && e != api.Size {
		return api.Arg, nil
	}
	if slowTwice(p) {
		return api.Twice, nil
	}
	for _, wrong := range []struct {
		is   func(p api.Prog, f int) bool
		code api.Code
	}{{slowUndefined, api.Undefined}, {slowTyped, api.Typed}} {
		for f := range p.Funcs {
			if wrong.is(p, f) {
				return wrong.code, nil
			}
		}
	}
	var all []told
	secret, size := false, false
	results, costs := map[string]bool{}, map[string]*big.Int{}
	for _, f := range p.Funcs {
		x := slowSecrets(p, f, results)
		cost := slowStmtsCost(f.Body, costs)
		results[f.Name], costs[f.Name] = x.result(), cost
		t := told{result: x.result(), cost: 4001}
		for name := range x.vars {
			t.secrets = append(t.secrets, name)
		}
		slices.Sort(t.secrets)
		if cost.Cmp(big.NewInt(4000)) <= 0 {
			t.cost = int(cost.Int64())
		}
		secret, size = secret || x.told(), size || t.cost > 4000
		all = append(all, t)
	}
	switch {
	case secret:
		return api.Secret, all
	case size:
		return api.Size, all
	}
	return api.OK, all
}

// maker makes sources at random that are right but for one slip in so many things.
type maker struct {
	*rand.Rand
	slip int
}

// slips tells whether something is done wrong.
func (m maker) slips() bool {
	return m.Intn(m.slip) == 0
}

// hand is what a function's statements have at hand.
type hand struct {
	m      maker
	p      api.Prog // what is ahead
	f      api.Func
	arrays []string
	loops  []string
	big    int
}

func (m maker) prog() api.Prog {
	var p api.Prog
	for _, name := range []string{"k", "l", "m"}[:m.Intn(4)] {
		if m.slips() {
			name = "k"
		}
		p.Secrets = append(p.Secrets, api.Array{Name: name, Len: 1 + m.Intn(4)})
	}
	for range 1 + m.Intn(4) {
		p.Funcs = append(p.Funcs, m.function(p))
	}
	return p
}

func (m maker) function(p api.Prog) api.Func {
	f := api.Func{Name: fmt.Sprint("f", len(p.Funcs)), Out: m.Intn(3) == 0}
	if m.slips() {
		f.Name = []string{"f0", "k"}[m.Intn(2)]
	}
	h := &hand{m: m, p: p, big: []int{2, 4, 64}[m.Intn(3)]}
	for _, a := range p.Secrets {
		h.arrays = append(h.arrays, a.Name)
	}
	for _, name := range []string{"a", "b", "c", "d", "e", "g"}[:m.Intn(7)] {
		x := api.Param{Name: name, Kind: m.Intn(3)}
		if f.Out && x.Kind == api.SecWord && !m.slips() {
			x.Kind = api.Pointer
		}
		if m.slips() {
			x.Name = []string{"a", "k"}[m.Intn(2)]
		}
		if x.Kind == api.Pointer {
			x.Len = 1 + m.Intn(3)
			h.arrays = append(h.arrays, x.Name)
		}
		f.Params = append(f.Params, x)
	}
	h.f = f
	f.Body = h.stmts(m.Intn(4))
	if !m.slips() {
		f.Body = append(f.Body, api.Stmt{Kind: api.SRet, Args: []api.Expr{h.expr(3, f.Out)}})
	}
	return f
}

// word is a name that no array has, but by a slip.
func (h *hand) word() string {
	if h.m.slips() && len(h.arrays) > 0 {
		return h.arrays[h.m.Intn(len(h.arrays))]
	}
	for {
		name := []string{"a", "b", "c", "d", "e", "g", "x", "y", "z", "f0"}[h.m.Intn(10)]
		if !slices.Contains(h.arrays, name) {
			return name
		}
	}
}

// free is a name that counts in no loop around, but by a slip.
func (h *hand) free() string {
	name := h.word()
	for slices.Contains(h.loops, name) && !h.m.slips() {
		name = h.word()
	}
	return name
}

// array is a name of one, if there is one.
func (h *hand) array() (string, bool) {
	if h.m.slips() {
		return h.word(), true
	}
	if len(h.arrays) == 0 {
		return "", false
	}
	return h.arrays[h.m.Intn(len(h.arrays))], true
}

func (h *hand) stmts(deep int) []api.Stmt {
	var l []api.Stmt
	for range h.m.Intn(4) {
		l = append(l, h.stmt(deep))
	}
	return l
}

func (h *hand) stmt(deep int) api.Stmt {
	switch k := h.m.Intn(6); {
	case h.m.slips():
		return api.Stmt{Kind: api.SRet, Args: []api.Expr{h.expr(2, true)}}
	case k == 0:
		if name, ok := h.array(); ok {
			return api.Stmt{Kind: api.SPut, Name: name, Args: []api.Expr{h.expr(2, true), h.expr(3, slowPointer(h.f, name) > 0)}}
		}
	case k == 1 && deep > 0:
		return api.Stmt{Kind: api.SIf, Args: []api.Expr{h.expr(2, true)}, Then: h.stmts(deep - 1), Else: h.stmts(deep - 1)}
	case k == 2 && deep > 0:
		s := api.Stmt{Kind: api.SFor, Name: h.free(), Num: 1 + h.m.Intn(h.big)}
		loops := h.loops
		h.loops = append(slices.Clone(loops), s.Name)
		s.Then = h.stmts(deep - 1)
		h.loops = loops
		return s
	}
	return api.Stmt{Kind: api.SSet, Name: h.free(), Args: []api.Expr{h.expr(3, h.m.Intn(2) == 0)}}
}

// expr is one that isn't secret, if it must be public, but by a slip, or by a variable that is.
func (h *hand) expr(deep int, public bool) api.Expr {
	if public && h.m.slips() {
		public = false
	}
	k := h.m.Intn(8)
	switch {
	case deep == 0 || k == 0:
		return api.Expr{Kind: api.ENum, Num: uint64(h.m.Intn(5))}
	case public && k < 5:
		return api.Expr{Kind: api.EOpen, Args: []api.Expr{h.expr(deep-1, false)}}
	case k == 1 || public:
		return api.Expr{Kind: api.EVar, Name: h.word()}
	case k == 2:
		if name, ok := h.array(); ok {
			return api.Expr{Kind: api.EGet, Name: name, Args: []api.Expr{h.expr(deep-1, true)}}
		}
	case k == 3:
		op := []uint64{api.Add, api.Xor, api.Divu, api.Remu, api.Mul}[h.m.Intn(5)]
		public = op == api.Divu || op == api.Remu
		return api.Expr{Kind: api.EOp, Num: op, Args: []api.Expr{h.expr(deep-1, public), h.expr(deep-1, public)}}
	case k == 4:
		return api.Expr{Kind: api.ESel, Args: []api.Expr{h.expr(deep-1, false), h.expr(deep-1, false), h.expr(deep-1, false)}}
	case k >= 5 && len(h.p.Funcs) > 0:
		if e, ok := h.call(deep); ok {
			return e
		}
	}
	return api.Expr{Kind: api.EVar, Name: h.word()}
}

// call is one of a function ahead, if there are pointers for it.
func (h *hand) call(deep int) (api.Expr, bool) {
	g := h.p.Funcs[h.m.Intn(len(h.p.Funcs))]
	e := api.Expr{Kind: api.ECall, Name: g.Name}
	if g.Out && !h.m.slips() {
		return e, false
	}
	for _, x := range g.Params {
		if x.Kind != api.Pointer || h.m.slips() {
			e.Args = append(e.Args, h.expr(deep-1, x.Kind == api.PubWord))
			continue
		}
		at := slices.IndexFunc(h.f.Params, func(y api.Param) bool {
			return y.Kind == api.Pointer && (y.Len >= x.Len || h.m.slips())
		})
		if at < 0 {
			return e, false
		}
		e.Args = append(e.Args, api.Expr{Kind: api.EVar, Name: h.f.Params[at].Name})
	}
	if h.m.slips() && len(e.Args) < 6 {
		e.Args = append(e.Args, h.expr(1, true))
	}
	return e, true
}
