package ir_test

import (
	"fmt"
	"slices"
	"strings"

	"caponier/alu"
	"caponier/api"
)

// The tests' own, slow way of doing what the chapter says: lines have names for registers and labels at first, which become numbers when all lines are there. And a machine that does what lines say.

// part is a line whose registers and label are names yet.
type part struct {
	op      int
	d, a, b string
	num     uint64
	label   string
	name    string
	args    []string
}

// lowerer makes names that are nowhere else.
type lowerer struct {
	p    api.Prog
	f    api.Func
	made int
}

func (x *lowerer) fresh(kind string) string {
	x.made++
	return fmt.Sprint(kind, " ", x.made)
}

// expr is an expression's lines, and the register in which they leave it.
func (x *lowerer) expr(e api.Expr) ([]part, string) {
	var parts []part
	var regs []string
	for _, a := range e.Args {
		l, r := x.expr(a)
		parts, regs = append(parts, l...), append(regs, r)
	}
	d := x.fresh("new")
	switch e.Kind {
	case api.ENum:
		return append(parts, part{op: api.LConst, d: d, num: e.Num}), d
	case api.EOp:
		return append(parts, part{op: api.LTwo, d: d, a: regs[0], b: regs[1], num: e.Num}), d
	case api.EGet:
		l, at := x.address(e.Name, regs[0])
		return slices.Concat(parts, l, []part{{op: api.LLoad, d: d, a: at}}), d
	case api.ESel:
		n := []string{x.fresh("new"), x.fresh("new"), x.fresh("new"), x.fresh("new"), x.fresh("new")}
		return append(parts,
			part{op: api.LConst, d: n[0]},
			part{op: api.LTwo, d: n[1], a: n[0], b: regs[0], num: 4},
			part{op: api.LTwo, d: n[2], a: n[0], b: n[1], num: 1},
			part{op: api.LTwo, d: n[3], a: regs[1], b: regs[2], num: 5},
			part{op: api.LTwo, d: n[4], a: n[3], b: n[2], num: 9},
			part{op: api.LTwo, d: d, a: n[4], b: regs[2], num: 5}), d
	case api.ECall:
		return append(parts, part{op: api.LCall, d: d, name: e.Name, args: regs}), d
	case api.EOpen:
		return append(parts, part{op: api.LOpen, a: regs[0]}), regs[0]
	}
	return parts, "the name " + e.Name
}

func (x *lowerer) address(name, index string) ([]part, string) {
	n := []string{x.fresh("new"), x.fresh("new"), x.fresh("new"), x.fresh("new"), x.fresh("new")}
	first := "the name " + name
	var words int
	for _, a := range x.f.Params {
		if a.Name == name {
			words = a.Len
		}
	}
	var addr []part
	for _, a := range x.p.Secrets {
		if a.Name == name {
			words, first = a.Len, x.fresh("new")
			addr = []part{{op: api.LAddr, d: first, name: name}}
		}
	}
	return slices.Concat([]part{
		{op: api.LConst, d: n[0], num: uint64(words)},
		{op: api.LTwo, d: n[1], a: index, b: n[0], num: 15},
		{op: api.LConst, d: n[2], num: 3},
		{op: api.LTwo, d: n[3], a: n[1], b: n[2], num: 2},
	}, addr, []part{{op: api.LTwo, d: n[4], a: first, b: n[3], num: 0}}), n[4]
}

func (x *lowerer) stmts(l []api.Stmt) []part {
	var parts []part
	for _, s := range l {
		parts = append(parts, x.stmt(s)...)
	}
	return parts
}

func (x *lowerer) stmt(s api.Stmt) []part {
	var parts []part
	var regs []string
	for _, a := range s.Args {
		l, r := x.expr(a)
		parts, regs = append(parts, l...), append(regs, r)
	}
	one, other := x.fresh("label"), x.fresh("label")
	switch s.Kind {
	case api.SSet:
		return append(parts, part{op: api.LCopy, d: "the name " + s.Name, a: regs[0]})
	case api.SPut:
		l, at := x.address(s.Name, regs[0])
		return slices.Concat(parts, l, []part{{op: api.LStore, a: at, b: regs[1]}})
	case api.SIf:
		return slices.Concat(parts, []part{{op: api.LZero, a: regs[0], label: one}}, x.stmts(s.Then),
			[]part{{op: api.LJump, label: other}, {op: api.LLabel, label: one}}, x.stmts(s.Else), []part{{op: api.LLabel, label: other}})
	case api.SFor:
		n := []string{x.fresh("new"), x.fresh("new"), x.fresh("new"), x.fresh("new"), x.fresh("new")}
		return slices.Concat([]part{
			{op: api.LConst, d: n[0]},
			{op: api.LLabel, label: one},
			{op: api.LConst, d: n[1], num: uint64(s.Num)},
			{op: api.LTwo, d: n[2], a: n[0], b: n[1], num: 4},
			{op: api.LZero, a: n[2], label: other},
			{op: api.LCopy, d: "the name " + s.Name, a: n[0]},
		}, x.stmts(s.Then), []part{
			{op: api.LConst, d: n[3], num: 1},
			{op: api.LTwo, d: n[4], a: n[0], b: n[3], num: 0},
			{op: api.LCopy, d: n[0], a: n[4]},
			{op: api.LJump, label: one},
			{op: api.LLabel, label: other},
		})
	}
	return append(parts, part{op: api.LRet, a: regs[0]})
}

// slowNames are all names that stand for registers in statements, as these are read.
func slowNames(l []api.Stmt) []string {
	var names []string
	for _, s := range l {
		inner := append(slowNames(s.Then), slowNames(s.Else)...)
		switch s.Kind {
		case api.SFor:
			inner = append([]string{s.Name}, inner...)
		case api.SSet:
			inner = append(slowRead(s.Args), s.Name)
		default:
			inner = append(slowRead(s.Args), inner...)
		}
		names = append(names, inner...)
	}
	return names
}

func slowRead(l []api.Expr) []string {
	var names []string
	for _, e := range l {
		if e.Kind == api.EVar {
			names = append(names, e.Name)
		}
		names = append(names, slowRead(e.Args)...)
	}
	return names
}

// numbers gives names numbers in the order in which they come.
type numbers map[string]int

func (n numbers) of(name string) int {
	if name == "" {
		return 0
	}
	if n[name] == 0 {
		n[name] = len(n) + 1
	}
	return n[name]
}

// slowLower is a right source's routines.
func slowLower(p api.Prog) []api.Routine {
	var all []api.Routine
	for _, f := range p.Funcs {
		x := &lowerer{p: p, f: f}
		regs, labels := numbers{}, numbers{}
		for _, a := range f.Params {
			regs.of("the name " + a.Name)
		}
		var parts []part
		for _, name := range slowNames(f.Body) {
			if old := len(regs); regs.of("the name "+name) > old {
				parts = append(parts, part{op: api.LConst, d: "the name " + name})
			}
		}
		r := api.Routine{Name: f.Name, Params: len(f.Params)}
		for _, s := range append(parts, x.stmts(f.Body)...) {
			line := api.Line{Op: s.op, D: regs.of(s.d), A: regs[s.a], B: regs[s.b], Num: s.num + uint64(labels.of(s.label)), Name: s.name}
			for _, a := range s.args {
				line.Args = append(line.Args, regs[a])
			}
			r.Lines = append(r.Lines, line)
		}
		r.Regs = len(regs)
		all = append(all, r)
	}
	return all
}

// fields are what a kind of line has: registers D, A and B; N a number, O an operation, J a label; S a secret array, C a routine and its arguments.
func fields() map[int]string {
	return map[int]string{
		api.LConst: "DN", api.LTwo: "DABO", api.LCopy: "DA", api.LAddr: "DS", api.LLoad: "DA", api.LStore: "AB",
		api.LJump: "J", api.LZero: "AJ", api.LLabel: "J", api.LCall: "DC", api.LOpen: "A", api.LRet: "A",
	}
}

// slowMay tells by the chapter's own words whether routines may be a source's.
func slowMay(l []api.Routine, p api.Prog) bool {
	if len(l) != len(p.Funcs) {
		return false
	}
	for i, r := range l {
		if r.Name != p.Funcs[i].Name || r.Params != len(p.Funcs[i].Params) || r.Regs < r.Params || r.Regs > 100000 || len(r.Lines) > 20000 {
			return false
		}
		labels, returns := map[uint64]int{}, 0
		for _, x := range r.Lines {
			if !slowMayLine(x, r, l[:i], p) {
				return false
			}
			if x.Op == api.LLabel {
				labels[x.Num]++
			}
			if x.Op == api.LRet {
				returns++
			}
		}
		for _, n := range labels {
			if n > 1 {
				return false
			}
		}
		for _, x := range r.Lines {
			if (x.Op == api.LJump || x.Op == api.LZero) && labels[x.Num] == 0 {
				return false
			}
		}
		if returns != 1 || r.Lines[len(r.Lines)-1].Op != api.LRet {
			return false
		}
	}
	return true
}

func slowMayLine(x api.Line, r api.Routine, ahead []api.Routine, p api.Prog) bool {
	has, ok := fields()[x.Op]
	if !ok {
		return false
	}
	rest := x // what is left of it when all is taken away that it may have
	for _, c := range has {
		switch c {
		case 'D', 'A', 'B':
			at := map[rune]*int{'D': &rest.D, 'A': &rest.A, 'B': &rest.B}[c]
			if *at < 1 || *at > r.Regs {
				return false
			}
			*at = 0
		case 'N', 'O', 'J':
			if c == 'O' && x.Num > 15 || c == 'J' && x.Num == 0 {
				return false
			}
			rest.Num = 0
		case 'S':
			if !slices.ContainsFunc(p.Secrets, func(a api.Array) bool { return a.Name == x.Name }) {
				return false
			}
			rest.Name = ""
		case 'C':
			if !slices.ContainsFunc(ahead, func(a api.Routine) bool { return a.Name == x.Name && a.Params == len(x.Args) }) {
				return false
			}
			for _, a := range x.Args {
				if a < 1 || a > r.Regs {
					return false
				}
			}
			rest.Name, rest.Args = "", nil
		}
	}
	return rest.D == 0 && rest.A == 0 && rest.B == 0 && rest.Num == 0 && rest.Name == "" && len(rest.Args) == 0
}

// text is all that routines hold, in one text, by which they may be held against others.
func text(l []api.Routine) string {
	var b strings.Builder
	for _, r := range l {
		fmt.Fprintf(&b, "%q %d %d\n", r.Name, r.Params, r.Regs)
		for _, x := range r.Lines {
			fmt.Fprintf(&b, "%d %d %d %d %d %q %v\n", x.Op, x.D, x.A, x.B, x.Num, x.Name, append([]int{}, x.Args...))
		}
	}
	return b.String()
}

// machine does what lines say, in a memory of words.
type machine struct {
	l      []api.Routine
	first  map[string]uint64 // where arrays begin
	words  map[uint64]uint64
	opened []uint64
}

const (
	secretsAt = 1 << 20
	sharedAt  = 1 << 24
)

// runLines is what a call comes to by lines; pointers are numbers of shared words.
func runLines(l []api.Routine, p api.Prog, f int, args []uint64, w api.World) api.Outcome {
	m := &machine{l: l, first: map[string]uint64{}, words: map[uint64]uint64{}}
	at := uint64(secretsAt)
	for i, a := range p.Secrets {
		m.first[a.Name] = at
		for _, v := range w.Secrets[i] {
			m.words[at] = v
			at += 8
		}
	}
	for i, v := range w.Shared {
		m.words[sharedAt+8*uint64(i)] = v
	}
	given := slices.Clone(args)
	for i, x := range p.Funcs[f].Params {
		if x.Kind == api.Pointer {
			given[i] = sharedAt + 8*given[i]
		}
	}
	o := api.Outcome{Value: m.run(l[f], given)}
	o.Opened = m.opened
	for _, a := range p.Secrets {
		var words []uint64
		for i := range a.Len {
			words = append(words, m.words[m.first[a.Name]+8*uint64(i)])
		}
		o.World.Secrets = append(o.World.Secrets, words)
	}
	for i := range w.Shared {
		o.World.Shared = append(o.World.Shared, m.words[sharedAt+8*uint64(i)])
	}
	return o
}

// word is one of the memory's; there is none at other addresses.
func (m *machine) word(at uint64) uint64 {
	v, ok := m.words[at]
	if !ok {
		panic(fmt.Sprint("no word begins at ", at))
	}
	return v
}

func (m *machine) run(r api.Routine, args []uint64) uint64 {
	regs := make([]uint64, r.Regs+1)
	copy(regs[1:], args)
	behind := func(n uint64) int {
		return slices.IndexFunc(r.Lines, func(x api.Line) bool { return x.Op == api.LLabel && x.Num == n })
	}
	for at := 0; ; at++ {
		switch x := r.Lines[at]; x.Op {
		case api.LConst:
			regs[x.D] = x.Num
		case api.LTwo:
			regs[x.D], _ = alu.Two(int(x.Num), regs[x.A], regs[x.B])
		case api.LCopy:
			regs[x.D] = regs[x.A]
		case api.LAddr:
			regs[x.D] = m.first[x.Name]
		case api.LLoad:
			regs[x.D] = m.word(regs[x.A])
		case api.LStore:
			m.word(regs[x.A])
			m.words[regs[x.A]] = regs[x.B]
		case api.LJump:
			at = behind(x.Num)
		case api.LZero:
			if regs[x.A] == 0 {
				at = behind(x.Num)
			}
		case api.LCall:
			var given []uint64
			for _, a := range x.Args {
				given = append(given, regs[a])
			}
			regs[x.D] = m.run(m.l[slices.IndexFunc(m.l, func(g api.Routine) bool { return g.Name == x.Name })], given)
		case api.LOpen:
			m.opened = append(m.opened, regs[x.A])
		case api.LRet:
			return regs[x.A]
		}
	}
}
