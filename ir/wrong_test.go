package ir_test

import (
	"fmt"
	"math"
	"slices"
	"strings"
	"testing"

	"caponier/api"
	"caponier/ir"
	"caponier/sec"
	"caponier/tree"
)

// wantCode wants a source not to be lowered, and nothing else to be told.
func wantCode(t *testing.T, p api.Prog, code api.Code) {
	t.Helper()
	if l, e := ir.Lower(p); e != code || len(l) != 0 {
		t.Errorf("P13.1: %s: %d, %d routines; want %d", short(p), e, len(l), code)
	}
}

// wrongHead is a source that is right, to which something is added that isn't.
const wrongHead = "(secret k 4) (fun id ((sec a)) (ret a)) (fun pub (a) (ret a)) (fun at ((ptr p 3) i) (ret (get p i))) (export f () (ret 7)) "

// TestWrongSources: a source that isn't right has the code that layer 11 tells, and no routines, of its right functions neither.
func TestWrongSources(t *testing.T) {
	wantLowered(t, parsed(t, wrongHead))
	for code, items := range map[api.Code][]string{
		api.Twice: {
			"(fun f () (ret 0))", "(fun k () (ret 0))", "(fun g (a a) (ret 0))", "(fun g (k) (ret 0))", "(export g ((ptr k 1)) (ret 0))",
		},
		api.Undefined: {
			"(fun g () (ret (get x 0)))", "(fun g () (put x 0 1) (ret 0))", "(fun g () (ret (call g)))", "(fun g () (ret (call f)))", "(fun g () (ret (call h))) (fun h () (ret 0))", "(fun g (a) (ret (get a 0)))",
		},
		api.Typed: {
			"(fun g ())", "(fun g () (set x 1))", "(fun g () (ret 0) (set x 1))", "(fun g () (ret 0) (ret 0))", "(fun g (a) (if a ((ret 0)) ((ret 1))) (ret 2))", "(export g ((sec a)) (ret 0))",
			"(fun g () (ret k))", "(fun g ((ptr p 1)) (ret p))", "(fun g () (set k 1) (ret 0))", "(fun g () (for k 2) (ret 0))", "(fun g () (for i 2 (set i 1)) (ret 0))", "(fun g () (for i 2 (for i 2)) (ret 0))",
			"(fun g () (ret (call pub)))", "(fun g () (ret (call pub 1 2)))", "(fun g ((ptr p 2)) (ret (call at p 1)))", "(fun g () (ret (call at 0 1)))", "(fun g () (ret (call at k 1)))",
		},
		api.Secret: {
			"(export g () (ret (get k 0)))", "(fun g () (ret (get k (get k 0))))", "(fun g () (if (get k 0) () ()) (ret 0))", "(fun g () (put k (get k 0) 0) (ret 0))", "(fun g ((ptr p 1)) (put p 0 (get k 0)) (ret 0))",
			"(fun g ((sec a)) (ret (divu a 1)))", "(fun g ((sec a)) (ret (remu 1 a)))", "(fun g ((sec a)) (ret (call pub a)))", "(export g () (ret (call id 1)))",
		},
		api.Size: {
			"(fun g () (for i 64 (for j 64)) (ret 0))", "(fun g () (for i 60 (for j 60)) (ret 0)) (fun h () (ret (add (call g) (call g))))", "(fun g () " + strings.Repeat("(for i 1)", 2000) + "(ret 0))",
		},
	} {
		for _, item := range items {
			p := parsed(t, wrongHead+item)
			if got := sec.Check(p); got != code {
				t.Errorf("the test is wrong: %s: %d; want %d", item, got, code)
			}
			wantCode(t, p, code)
		}
	}
	for i, change := range []func(p *api.Prog){
		func(p *api.Prog) { p.Funcs[3].Name = "" },
		func(p *api.Prog) { p.Funcs[0].Name = strings.Repeat("a", api.MaxName+1) },
		func(p *api.Prog) { p.Secrets[0].Len = 65 },
		func(p *api.Prog) { p.Secrets[0].Len = -1 },
		func(p *api.Prog) { p.Funcs[2].Params[0].Len = 0 },
		func(p *api.Prog) { p.Funcs[3].Body[0].Kind = 5 },
		func(p *api.Prog) { p.Funcs[3].Body[0].Kind = -1 },
		func(p *api.Prog) { p.Funcs[3].Body[0].Args = nil },
		func(p *api.Prog) { p.Funcs[3].Body[0].Args[0].Kind = 7 },
		func(p *api.Prog) { p.Funcs[3].Body[0].Args[0].Name = "x" },
		func(p *api.Prog) {
			p.Funcs[3].Body[0].Args[0] = api.Expr{Kind: api.EOp, Num: api.Div, Args: make([]api.Expr, 2)}
		},
		func(p *api.Prog) {
			p.Funcs[3].Body = append([]api.Stmt{{Kind: api.SFor, Name: "i"}}, p.Funcs[3].Body...)
		},
		func(p *api.Prog) {
			p.Funcs[3].Body = append([]api.Stmt{{Kind: api.SFor, Name: "i", Num: 65}}, p.Funcs[3].Body...)
		},
		func(p *api.Prog) { p.Funcs = slices.Concat(p.Funcs, make([]api.Func, 29)) },
		func(p *api.Prog) { e := p.Funcs[2].Body[0].Args; e[0].Args = e },
	} {
		p := parsed(t, wrongHead)
		change(&p)
		if got := sec.Check(p); got != api.Arg {
			t.Errorf("the test is wrong: %d: %d", i, got)
		}
		wantCode(t, p, api.Arg)
	}
	wantCode(t, api.Prog{Funcs: []api.Func{{Name: "f"}}}, api.Typed)
}

// TestLongSources: a tree whose source would be too long is lowered, since it is right.
func TestLongSources(t *testing.T) {
	name := strings.Repeat("n", api.MaxName)
	p := parsed(t, "(export f ("+name+") (ret "+name+"))")
	add := parsed(t, "(export f ("+name+") (set "+name+" (add 1 "+name+")) (ret 0))").Funcs[0].Body[:1]
	p.Funcs[0].Body = slices.Concat(slices.Repeat(add, 900), p.Funcs[0].Body)
	if _, e := tree.Print(p); e != api.Size {
		t.Errorf("the test is wrong: %d", e)
	}
	if l := wantLowered(t, p); l[0].Regs != 1801 {
		t.Errorf("P13.1: %d registers", l[0].Regs)
	}
	// One list in many places.
	p = parsed(t, "(export f () (set x (add (open x) 1)) (for i 3) (if i () ()) (ret x))")
	body := p.Funcs[0].Body
	body[1].Then, body[2].Then, body[2].Else = body[:1], body[:2], body[:1]
	wantLowered(t, p)
}

// kindsText is a source whose last function's lines are kinds(): each kind is there, that may be another's.
const kindsText = "(secret k 2) (secret l 3) (fun none () (ret 1)) (export three (a (ptr p 2) c) (ret a)) (fun f (a) (ret a)) (fun behind () (ret 1))"

// kinds are routines of kindsText, with each kind of line, of seven registers.
func kinds() []api.Routine {
	return []api.Routine{
		routine("none", 0, 1, number(1, 1), ret(1)),
		routine("three", 3, 3, ret(1)),
		routine("f", 1, 7, number(2, 5), two(api.Mulhu, 3, 1, 2), copied(4, 3), addr(5, "l"), load(6, 5), store(5, 6), label(3), zero(6, 9), jump(3), label(9), call(7, "three", 1, 7, 2), call(7, "none"), open(7), label(all), jump(all), ret(7)),
		routine("behind", 0, 2, number(2, 1), ret(2)),
	}
}

// wantMay wants routines to be such as may be, or such as may not.
func wantMay(t *testing.T, l []api.Routine, p api.Prog, may bool, what ...any) {
	t.Helper()
	if slowMay(l, p) != may {
		t.Errorf("the test is wrong: %s", fmt.Sprint(what...))
	}
	if ir.May(l, p) != may {
		t.Errorf("P13.2: %s: %v", fmt.Sprint(what...), !may)
	}
}

// changed are the routines of kinds(), but for one change.
func changed(change func(l []api.Routine)) []api.Routine {
	l := kinds()
	change(l)
	return l
}

// TestKinds: each kind of line, by itself as it may be.
func TestKinds(t *testing.T) {
	p := parsed(t, kindsText)
	wantMay(t, kinds(), p, true, "each kind of line")
	// What is lowered isn't all that may be.
	l, _ := ir.Lower(p)
	wantMay(t, l, p, true, "what is lowered")
	// Lists without elements, nil or empty.
	wantMay(t, changed(func(l []api.Routine) {
		for i := range l {
			for k := range l[i].Lines {
				if len(l[i].Lines[k].Args) == 0 {
					l[i].Lines[k].Args = []int{}
				}
			}
		}
	}), p, true, "empty lists")
}

// TestWrongRoutines: too few, too many, in another order, of another name, of other parameters, registers or lines.
func TestWrongRoutines(t *testing.T) {
	p := parsed(t, kindsText)
	for n := range 4 {
		wantMay(t, kinds()[:n], p, false, n, " routines")
		wantMay(t, kinds()[n+1:], p, false, "without the first ", n+1)
		wantMay(t, slices.Delete(kinds(), n, n+1), p, false, "without ", n)
		wantMay(t, slices.Insert(kinds(), n, kinds()[n]), p, false, n, " twice")
		for m := range 4 {
			wantMay(t, changed(func(l []api.Routine) { l[n], l[m] = l[m], l[n] }), p, n == m, n, " and ", m)
		}
		for _, name := range []string{"", "x", "k", "f ", "F", "three", "none"} {
			wantMay(t, changed(func(l []api.Routine) { l[n].Name = name }), p, name == p.Funcs[n].Name, n, " is ", name)
		}
		for _, params := range []int{-1, 0, 1, 2, 3, 4, 6, 7, math.MaxInt, math.MinInt} {
			wantMay(t, changed(func(l []api.Routine) { l[n].Params, l[n].Regs = params, max(l[n].Regs, min(params, 100000)) }), p, params == len(p.Funcs[n].Params), n, " has parameters ", params)
		}
		wantMay(t, changed(func(l []api.Routine) { l[n].Lines = nil }), p, false, n, " without lines")
		wantMay(t, changed(func(l []api.Routine) { l[n].Lines = []api.Line{} }), p, false, n, " without lines")
		wantMay(t, changed(func(l []api.Routine) { l[n] = api.Routine{} }), p, false, n, " is nothing")
	}
	wantMay(t, append(kinds(), api.Routine{}), p, false, "one more")
	wantMay(t, nil, p, false, "none")
	// Functions of one form alone may be told by their names.
	q := parsed(t, "(fun a () (ret 1)) (fun b () (ret 1))")
	a, b := routine("a", 0, 1, number(1, 1), ret(1)), routine("b", 0, 1, number(1, 1), ret(1))
	wantMay(t, []api.Routine{a, b}, q, true, "a, b")
	wantMay(t, []api.Routine{b, a}, q, false, "b, a")
	wantMay(t, []api.Routine{a, a}, q, false, "a, a")
}

// TestRegs: from Params to 100000.
func TestRegs(t *testing.T) {
	for params := range 7 {
		f := api.Func{Name: "f", Params: []api.Param{{Name: "a"}, {Name: "b"}, {Name: "c"}, {Name: "d"}, {Name: "e"}, {Name: "g"}}[:params]}
		p := api.Prog{Funcs: []api.Func{f}}
		p.Funcs[0].Body = parsed(t, "(fun f () (ret 1))").Funcs[0].Body
		for _, regs := range []int{math.MinInt, -1, 0, params - 1, params, params + 1, 20000, 99999, 100000, 100001, 1 << 32, math.MaxInt} {
			may := regs >= params && regs >= 1 && regs <= 100000
			wantMay(t, []api.Routine{routine("f", params, regs, number(1, 1), ret(1))}, p, may, regs, " registers of ", params)
			if regs > 0 {
				wantMay(t, []api.Routine{routine("f", params, regs, number(regs, 1), ret(regs))}, p, may, "register ", regs, " of ", params)
			}
			wantMay(t, []api.Routine{routine("f", params, regs, number(1, 1), ret(regs+1))}, p, false, "beyond ", regs)
		}
	}
	// A register below Params is wrong even where no line names a greater one.
	p := parsed(t, "(fun f (a b c) (ret a))")
	wantMay(t, []api.Routine{routine("f", 3, 2, ret(1))}, p, false, "two registers of three parameters")
	wantMay(t, []api.Routine{routine("f", 3, 3, ret(1))}, p, true, "three registers of three parameters")
}

// TestLines: one to 20000, the last of which alone returns.
func TestLines(t *testing.T) {
	p := parsed(t, "(fun g () (ret 1)) (fun f (a) (ret a))")
	g := routine("g", 0, 1, number(1, 1), ret(1))
	for _, n := range []int{1, 2, 3, 19999, 20000, 20001, 20002, 40000} {
		l := append(slices.Repeat(lines(open(1)), n-1), ret(1))
		wantMay(t, []api.Routine{g, routine("f", 1, 1, l)}, p, n <= 20000, n, " lines")
	}
	for _, l := range [][]api.Line{
		lines(ret(1), ret(1)), lines(ret(1), open(1)), lines(open(1)), lines(open(1), ret(1), open(1), ret(1)), lines(ret(1), open(1), ret(1)), lines(label(1), jump(1)), lines(zero(1, 1), ret(1), label(1), ret(1)), lines(open(1), ret(1), label(1)),
	} {
		wantMay(t, []api.Routine{g, routine("f", 1, 1, l)}, p, false, l)
		wantMay(t, []api.Routine{routine("g", 0, 1, l), routine("f", 1, 1, ret(1))}, p, false, l)
	}
}

// TestOps: of each line Op is one.
func TestOps(t *testing.T) {
	p := parsed(t, kindsText)
	for i := range kinds()[2].Lines {
		for _, op := range []int{-1, 12, 13, 1 << 32, math.MaxInt, math.MinInt} {
			wantMay(t, changed(func(l []api.Routine) { l[2].Lines[i].Op = op }), p, false, i, " is ", op)
			wantMay(t, changed(func(l []api.Routine) { l[2].Lines[i] = api.Line{Op: op} }), p, false, i, " is ", op, " alone")
		}
		for op := range 12 { // another kind has other things
			may := kinds()[2].Lines[i].Op == op || op == api.LCopy && kinds()[2].Lines[i].Op == api.LLoad || op == api.LLoad && kinds()[2].Lines[i].Op == api.LCopy
			wantMay(t, changed(func(l []api.Routine) { l[2].Lines[i].Op = op }), p, may, i, " is ", op)
		}
	}
}

// registers are those of a line, each by its name.
func registers(x *api.Line) map[string]*int {
	m := map[string]*int{"D": &x.D, "A": &x.A, "B": &x.B}
	for i := range x.Args {
		m[fmt.Sprint("Args ", i)] = &x.Args[i]
	}
	return m
}

// TestRegisters: in each place where a kind of line has one, it is from 1 to Regs; elsewhere there is 0.
func TestRegisters(t *testing.T) {
	p := parsed(t, kindsText)
	tried := 0
	for i, x := range kinds()[2].Lines {
		for name, old := range registers(&x) {
			has := *old != 0
			for _, r := range []int{math.MinInt, -7, -1, 0, 1, 2, 6, 7, 8, 9, 100000, 100001, 1 << 32, 1<<32 + 1, math.MaxInt} {
				may := has && r >= 1 && r <= 7 || !has && r == 0
				wantMay(t, changed(func(l []api.Routine) { *registers(&l[2].Lines[i])[name] = r }), p, may, "line ", i, ", ", name, " is ", r)
				tried++
			}
		}
	}
	if tried != (16*3+3)*15 {
		t.Errorf("the test is wrong: %d", tried)
	}
}

// TestNums: of an LConst any number, of an LTwo an operation, of labels and jumps above 0; else 0.
func TestNums(t *testing.T) {
	p := parsed(t, kindsText)
	for i, x := range kinds()[2].Lines {
		for _, n := range []uint64{0, 1, 2, 3, 9, 10, 13, 14, 15, 16, 42, 43, 1 << 31, 1 << 32, 1<<32 + 3, 1<<63 - 1, 1 << 63, all - 1, all} {
			may := n == x.Num
			switch x.Op {
			case api.LConst:
				may = true
			case api.LTwo:
				may = n <= 15
			case api.LZero, api.LJump: // to another label that is there
				may = n == 3 || n == 9 || n == all
			}
			wantMay(t, changed(func(l []api.Routine) { l[2].Lines[i].Num = n }), p, may, "line ", i, " has ", n)
		}
	}
	for op := range uint64(16) {
		wantMay(t, changed(func(l []api.Routine) { l[2].Lines[1].Num = op }), p, true, "operation ", op)
	}
}

// TestLabels: each above 0, none twice, and each there that a jump names; there may be more.
func TestLabels(t *testing.T) {
	p := parsed(t, "(fun g (a) (ret a)) (fun f (a) (ret a))")
	try := func(may bool, l ...any) {
		t.Helper()
		wantMay(t, []api.Routine{routine("g", 1, 1, ret(1)), routine("f", 1, 1, append(l, ret(1))...)}, p, may, l...)
		wantMay(t, []api.Routine{routine("g", 1, 1, append(l, ret(1))...), routine("f", 1, 1, ret(1))}, p, may, l...)
	}
	for _, n := range []uint64{1, 2, 3, 19999, 1 << 32, 1<<63 - 1, 1 << 63, all} {
		try(true, label(n))
		try(true, jump(n), label(n))
		try(true, label(n), jump(n))
		try(true, label(n), zero(1, n), jump(n), zero(1, n))
		try(true, label(n), label(n-1|4), zero(1, n), jump(n-1|4))
		try(false, jump(n))
		try(false, zero(1, n))
		try(false, label(n), label(n))
		try(false, label(n), jump(n), label(n), label(1<<40))
		try(false, jump(n), label(n-1|1<<40))
		try(false, zero(1, n+1), jump(n), label(n))
		try(false, zero(1, n), jump(n+1), label(n))
	}
	try(false, label(0))
	try(false, jump(0))
	try(false, zero(1, 0))
	try(false, label(0), jump(0))
	try(false, label(0), zero(1, 0))
	try(false, label(1), label(2), label(3), label(1))
	// Another routine's labels are no labels of this one, and may be the same.
	wantMay(t, []api.Routine{routine("g", 1, 1, label(1), ret(1)), routine("f", 1, 1, jump(1), ret(1))}, p, false, "the label of one ahead")
	wantMay(t, []api.Routine{routine("g", 1, 1, jump(1), ret(1)), routine("f", 1, 1, label(1), ret(1))}, p, false, "the label of one behind")
	wantMay(t, []api.Routine{routine("g", 1, 1, jump(1), label(1), ret(1)), routine("f", 1, 1, label(1), ret(1))}, p, true, "a label of each")
}

// TestNames: of an LAddr a secret array's; of an LCall a routine's ahead; else none.
func TestNames(t *testing.T) {
	p := parsed(t, kindsText)
	for i, x := range kinds()[2].Lines {
		for _, name := range []string{"", "k", "l", "a", "p", "f", "none", "three", "behind", "K", "k ", "x", "0"} {
			may := name == x.Name || x.Op == api.LAddr && (name == "k" || name == "l")
			wantMay(t, changed(func(l []api.Routine) { l[2].Lines[i].Name = name }), p, may, "line ", i, " names ", name)
		}
	}
	// Any routine ahead, and no other: itself neither, of whatever name and parameters.
	p = parsed(t, "(secret k 1) (fun a () (ret 1)) (export b () (ret 1)) (fun c () (ret 1)) (fun d () (ret 1))")
	names := []string{"a", "b", "c", "d", "k", "e", ""}
	for i := range 4 {
		for k, name := range names {
			var l []api.Routine
			for _, own := range names[:4] {
				l = append(l, routine(own, 0, 1, number(1, 1), ret(1)))
			}
			l[i].Lines[0] = call(1, name)
			wantMay(t, l, p, k < i, names[i], " calls ", name)
		}
	}
}

// TestArgs: as many as the routine has that is called; other lines have none.
func TestArgs(t *testing.T) {
	for n := range 7 {
		params := []api.Param{{Name: "a"}, {Name: "b"}, {Name: "c"}, {Name: "d"}, {Name: "e"}, {Name: "g"}}[:n]
		p := parsed(t, "(fun g () (ret 1)) (fun f () (ret 1))")
		p.Funcs[0].Params = params
		for m := range 9 {
			l := []api.Routine{routine("g", n, n+1, number(n+1, 1), ret(n+1)), routine("f", 0, 2, number(2, 1), call(1, "g", slices.Repeat([]int{2}, m)...), ret(1))}
			wantMay(t, l, p, m == n, m, " arguments of ", n)
			for i := range m {
				for _, r := range []int{-1, 0, 3, 1, 2} {
					l[1].Lines[1].Args[i] = r
					wantMay(t, l, p, m == n && r >= 1 && r <= 2, m, " arguments of ", n, ", ", i, " is ", r)
				}
			}
		}
	}
	p := parsed(t, kindsText)
	for i, x := range kinds()[2].Lines {
		for _, args := range [][]int{nil, {0}, {1}, {1, 2}, {1, 2, 3}, {1, 2, 3, 4}, {8, 1, 1}} {
			may := len(args) == len(x.Args) && !slices.Contains(args, 8)
			wantMay(t, changed(func(l []api.Routine) { l[2].Lines[i].Args = args }), p, may, "line ", i, " has ", args)
		}
	}
}

// TestChangedRoutines changes one thing in routines that are lowered: they may be, or not; and they aren't alike any more.
func TestChangedRoutines(t *testing.T) {
	m := maker{newRand(1320)}
	may, not := 0, 0
	for range 600 {
		p := m.prog()
		l, e := ir.Lower(p)
		if e != api.OK {
			continue
		}
		for range 12 {
			other, _ := ir.Lower(p)
			m.change(other, p)
			is := slowMay(other, p)
			if ir.May(other, p) != is {
				t.Fatalf("P13.2: %s:\n%s: %v", short(p), text(other), !is)
			}
			if alike := text(l) == text(other); ir.Same(l, other) != alike || ir.Same(other, l) != alike {
				t.Fatalf("P13.3: %s:\n%s: %v", short(p), text(other), !alike)
			}
			if is {
				may++
			} else {
				not++
			}
		}
	}
	if may < 800 || not < 3000 {
		t.Errorf("the test is wrong: %d, %d", may, not)
	}
}

// change changes one thing in routines, often to what is elsewhere.
func (m maker) change(l []api.Routine, p api.Prog) {
	r := &l[m.Intn(len(l))]
	i := m.Intn(len(r.Lines))
	x, y := &r.Lines[i], r.Lines[m.Intn(len(r.Lines))]
	reg := []int{1, 0, -1, r.Regs, r.Regs + 1, 1 + m.Intn(r.Regs), y.D, y.A}[m.Intn(8)]
	switch m.Intn(14) {
	case 0:
		x.D = reg
	case 1:
		x.A = reg
	case 2:
		x.B = reg
	case 3:
		x.Num = []uint64{y.Num, m.number(), uint64(m.Intn(18)), x.Num + 1}[m.Intn(4)]
	case 4:
		x.Name = []string{"", "k", "l", "f0", "f1", "f2", y.Name, r.Name}[m.Intn(8)]
	case 5:
		x.Args = []([]int){y.Args, append(x.Args, reg), nil, x.Args[:len(x.Args)/2]}[m.Intn(4)]
	case 6:
		if len(x.Args) > 0 {
			x.Args[m.Intn(len(x.Args))] = reg
		}
	case 7:
		x.Op = m.Intn(14) - 1
	case 8:
		*x = y
	case 9:
		r.Lines = slices.Delete(r.Lines, i, i+1)
	case 10:
		r.Lines = slices.Insert(r.Lines, i, y)
	case 11:
		r.Regs = []int{r.Regs + 1, r.Regs - 1, r.Params, 0, 100000, 100001}[m.Intn(6)]
	case 12:
		r.Params += []int{1, -1}[m.Intn(2)]
	case 13:
		r.Name = p.Funcs[m.Intn(len(l))].Name
	}
}
