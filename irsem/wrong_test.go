package irsem_test

import (
	"fmt"
	"math"
	"slices"
	"strings"
	"testing"

	"caponier/api"
	"caponier/ir"
	"caponier/irsem"
	"caponier/sec"
	"caponier/sem"
)

// kindsText is a source whose last function but one has the lines of kinds(): each kind is there.
const kindsText = "(secret k 2) (secret l 3) (fun none () (ret 1)) (export three (a (ptr p 2) c) (ret a)) (fun f (a (ptr p 2)) (ret a)) (fun behind () (ret 1))"

// kinds are routines of kindsText, with each kind of line, of seven registers.
func kinds() []api.Routine {
	return []api.Routine{
		routine("none", 0, 1, number(1, 1), ret(1)),
		routine("three", 3, 3, ret(1)),
		routine("f", 2, 7, number(3, 5), two(api.Mulhu, 4, 1, 3), copied(4, 3), addr(5, "l"), load(6, 5), store(5, 6), label(3), zero(6, 9), jump(8), label(8), label(9), call(7, "three", 1, 2, 6), call(7, "none"), open(7), label(all), zero(7, all), ret(7)),
		routine("behind", 0, 2, number(2, 1), ret(2)),
	}
}

func kindsWorld() api.World {
	return world(count(4), row(1, 2), row(3, 4, 5))
}

// wantWrong wants no function of a source to be run by routines that may not be its.
func wantWrong(t *testing.T, l []api.Routine, p api.Prog, what ...any) {
	t.Helper()
	if ir.May(l, p) {
		t.Errorf("the test is wrong: %s", fmt.Sprint(what...))
	}
	for f, x := range p.Funcs {
		w := kindsWorld()
		w.Secrets = w.Secrets[:len(p.Secrets)]
		if !sem.May(p, f, make([]uint64, len(x.Params)), w) {
			t.Errorf("the test is wrong: %s: %d", fmt.Sprint(what...), f)
		}
		for _, fuel := range []int{-1, 0, 1, 100, math.MaxInt} {
			wantCode(t, l, p, f, make([]uint64, len(x.Params)), w, fuel, api.Arg, what...)
		}
	}
}

// changed are the routines of kinds(), but for one change.
func changed(change func(l []api.Routine)) []api.Routine {
	l := kinds()
	change(l)
	return l
}

// TestKindsMayBeRun: what the tests below change may be run as it is.
func TestKindsMayBeRun(t *testing.T) {
	p := parsed(t, kindsText)
	for f, x := range p.Funcs {
		if got := wantAsSlow(t, kinds(), p, f, make([]uint64, len(x.Params)), kindsWorld(), 100); got.code != api.OK {
			t.Errorf("the test is wrong: %d: %d", f, got.code)
		}
	}
}

// TestWrongRoutines: too few, too many, in another order, of another name, of other parameters or registers.
func TestWrongRoutines(t *testing.T) {
	p := parsed(t, kindsText)
	for n := range 4 {
		wantWrong(t, kinds()[:n], p, n, " routines")
		wantWrong(t, kinds()[n+1:], p, "without the first ", n+1)
		wantWrong(t, slices.Delete(kinds(), n, n+1), p, "without ", n)
		wantWrong(t, slices.Insert(kinds(), n, kinds()[n]), p, n, " twice")
		for m := range n {
			wantWrong(t, changed(func(l []api.Routine) { l[n], l[m] = l[m], l[n] }), p, n, " and ", m)
		}
		for _, name := range []string{"", "x", "k", "f ", "F"} {
			wantWrong(t, changed(func(l []api.Routine) { l[n].Name = name }), p, n, " is ", name)
		}
		for _, more := range []int{-1, 1, 100} {
			wantWrong(t, changed(func(l []api.Routine) { l[n].Params += more }), p, n, " has more parameters: ", more)
		}
		for _, regs := range []int{math.MinInt, -1, 0, 100001, 1 << 32, math.MaxInt} {
			wantWrong(t, changed(func(l []api.Routine) { l[n].Regs = regs }), p, n, " has registers: ", regs)
		}
		wantWrong(t, changed(func(l []api.Routine) { l[n] = api.Routine{} }), p, n, " is nothing")
	}
	wantWrong(t, changed(func(l []api.Routine) { l[1].Regs = 2 }), p, "fewer registers than parameters")
	wantWrong(t, append(kinds(), api.Routine{}), p, "one more")
	wantWrong(t, nil, p, "none")
	// Of functions of one form alone.
	q := parsed(t, "(fun a () (ret 1)) (fun b () (ret 1))")
	a, b := routine("a", 0, 1, ret(1)), routine("b", 0, 1, ret(1))
	wantWrong(t, []api.Routine{b, a}, q, "b, a")
	wantWrong(t, []api.Routine{a, a}, q, "a, a")
	wantWrong(t, []api.Routine{a}, q, "a")
	wantWrong(t, []api.Routine{a, b, b}, q, "a, b, b")
}

// TestWrongLines: those of one routine, by each lack that a line may have, though the routine is never run, and the line never come to.
func TestWrongLines(t *testing.T) {
	p := parsed(t, kindsText)
	for n := range 4 {
		for _, l := range [][]api.Line{
			nil, {}, {open(1)}, {ret(1), ret(1)}, {ret(1), open(1)}, {open(1), ret(1), open(1), ret(1)}, {label(1), jump(1)}, {zero(1, 1), ret(1), label(1), ret(1)},
			slices.Repeat([]api.Line{open(1)}, 20000), append(slices.Repeat([]api.Line{open(1)}, 20000), ret(1)),
		} {
			wantWrong(t, changed(func(x []api.Routine) { x[n].Lines = l }), p, n, " has ", len(l), " lines")
		}
	}
	for i, x := range slices.Concat([]api.Line{
		{}, {Op: -1}, {Op: 12}, {Op: math.MaxInt}, {Op: math.MinInt}, label(0), label(3), label(all), jump(0), jump(4), zero(1, 0), zero(1, 4), {Op: api.LLabel, Num: 77, Name: "l"},
		number(0, 1), number(-1, 1), number(8, 1), two(16, 1, 1, 1), two(api.Addi, 1, 1, 1), two(all, 1, 1, 1), two(1<<32, 1, 1, 1), two(api.Add, 0, 1, 1), two(api.Add, 1, 0, 1), two(api.Add, 1, 1, 0), two(api.Add, 8, 1, 1), two(api.Add, 1, 8, 1), two(api.Add, 1, 1, 8),
		copied(0, 1), copied(1, 0), copied(8, 1), copied(1, 8), addr(0, "k"), addr(8, "k"), addr(1, ""), addr(1, "p"), addr(1, "f"), addr(1, "none"), addr(1, "m"), addr(1, "K"), load(0, 1), load(1, 0), load(8, 1), load(1, 8), store(0, 1), store(1, 0), store(8, 1), store(1, 8),
		call(0, "none"), call(8, "none"), call(1, ""), call(1, "k"), call(1, "f", 1, 2), call(1, "behind"), call(1, "g"), call(1, "none", 1), call(1, "three"), call(1, "three", 1, 2), call(1, "three", 1, 2, 3, 4), call(1, "three", 0, 1, 2), call(1, "three", 1, 2, 8), call(1, "three", 1, -1, 2),
		open(0), open(8), open(-1), open(math.MaxInt), ret(1), ret(0), zero(0, 3), zero(8, 3),
	}) {
		wantWrong(t, changed(func(l []api.Routine) { l[2].Lines = slices.Insert(l[2].Lines, 7, x) }), p, i, ": ", x)
		// Where a run never comes to it.
		wantWrong(t, changed(func(l []api.Routine) { l[2].Lines = slices.Insert(l[2].Lines, 9, x) }), p, i, ": ", x)
		wantWrong(t, changed(func(l []api.Routine) { l[2].Lines = slices.Concat([]api.Line{jump(3)}, []api.Line{x}, l[2].Lines) }), p, i, ": ", x)
	}
	for i := range kinds()[2].Lines { // each kind, with one thing more than it has
		for what, change := range map[string]func(x *api.Line) bool{
			"D":    func(x *api.Line) bool { x.D++; return x.D == 1 },
			"A":    func(x *api.Line) bool { x.A++; return x.A == 1 },
			"B":    func(x *api.Line) bool { x.B++; return x.B == 1 },
			"-D":   func(x *api.Line) bool { x.D = -1; return true },
			"-A":   func(x *api.Line) bool { x.A = -1; return true },
			"-B":   func(x *api.Line) bool { x.B = -1; return true },
			"Num":  func(x *api.Line) bool { x.Num++; return x.Num == 1 && x.Op != api.LTwo },
			"Name": func(x *api.Line) bool { x.Name += "l"; return true },
			"Args": func(x *api.Line) bool { x.Args = append(x.Args, 1); return true },
		} {
			l := kinds()
			if change(&l[2].Lines[i]) {
				wantWrong(t, l, p, i, ": ", what)
			}
		}
	}
}

// TestWrongSources: no function of a source may be called that isn't right, whatever its routines are.
func TestWrongSources(t *testing.T) {
	head := "(secret k 2) (fun id ((sec a)) (ret a)) (fun pub (a) (ret a)) (fun at ((ptr p 2) i) (ret (get p i))) (export f () (ret 7)) "
	heads := []api.Routine{routine("id", 1, 1, ret(1)), routine("pub", 1, 1, ret(1)), routine("at", 2, 2, ret(2)), routine("f", 0, 1, ret(1))}
	for code, items := range map[api.Code][]string{
		api.Twice:     {"(fun f () (ret 0))", "(fun k () (ret 0))", "(fun g (a a) (ret 0))", "(fun g (k) (ret 0))"},
		api.Undefined: {"(fun g () (ret (get x 0)))", "(fun g () (put x 0 1) (ret 0))", "(fun g () (ret (call g)))", "(fun g () (ret (call f)))"},
		api.Typed:     {"(fun g ())", "(fun g () (ret 0) (ret 0))", "(export g ((sec a)) (ret 0))", "(fun g () (ret k))", "(fun g () (for i 2 (set i 1)) (ret 0))", "(fun g () (ret (call pub)))"},
		api.Secret:    {"(export g () (ret (get k 0)))", "(fun g () (if (get k 0) () ()) (ret 0))", "(fun g ((ptr p 1)) (put p 0 (get k 0)) (ret 0))", "(fun g () (ret (call pub (get k 1))))"},
		api.Size:      {"(fun g () (for i 64 (for j 64)) (ret 0))"},
	} {
		for _, item := range items {
			p := parsed(t, head+item)
			if got := sec.Check(p); got != code {
				t.Errorf("the test is wrong: %s: %d; want %d", item, got, code)
			}
			last := p.Funcs[4]
			l := append(slices.Clone(heads), routine(last.Name, len(last.Params), 9, ret(9)))
			if !ir.May(l, p) {
				t.Errorf("the test is wrong: %s", item)
			}
			for f, x := range p.Funcs {
				wantCode(t, l, p, f, make([]uint64, len(x.Params)), world(count(4), row(1, 2)), 100, api.Arg, item)
			}
		}
	}
	for i, change := range []func(p *api.Prog){
		func(p *api.Prog) { p.Secrets[0].Len = 65 },
		func(p *api.Prog) { p.Secrets[0].Len = 0 },
		func(p *api.Prog) { p.Secrets[0].Len = -1 },
		func(p *api.Prog) { p.Secrets[0].Name = "7" },
		func(p *api.Prog) { p.Funcs[2].Params[0].Len = 0 },
		func(p *api.Prog) { p.Funcs[2].Params[0].Len = -1 },
		func(p *api.Prog) { p.Funcs[3].Body[0].Kind = 5 },
		func(p *api.Prog) { p.Funcs[3].Body[0].Args = nil },
		func(p *api.Prog) { p.Funcs[3].Body = nil },
		func(p *api.Prog) { e := p.Funcs[2].Body[0].Args; e[0].Args = e },
	} {
		p := parsed(t, head)
		change(&p)
		for _, n := range []int{0, 1, 2, 64, 65} {
			for f, x := range p.Funcs {
				wantCode(t, heads, p, f, make([]uint64, len(x.Params)), world(count(4), count(n)), 100, api.Arg, i)
			}
		}
	}
	wantCode(t, nil, api.Prog{}, 0, nil, api.World{}, 100, api.Arg)
	// Above what one may cost, lines may not be run, though they were few.
	p := parsed(t, "(fun f () "+strings.Repeat("(for i 1)", 2000)+"(ret 0))")
	wantCode(t, []api.Routine{routine("f", 0, 1, ret(1))}, p, 0, nil, api.World{}, 100, api.Arg)
}

// TestWrongCalls: a function that there isn't, too few and too many arguments, pointers beyond the shared words, worlds of other lengths.
func TestWrongCalls(t *testing.T) {
	p := parsed(t, kindsText)
	w := kindsWorld()
	try := func(f int, args []uint64, w api.World) {
		t.Helper()
		if sem.May(p, f, args, w) {
			t.Errorf("the test is wrong: %d of %v, %v", f, args, w)
		}
		for _, fuel := range []int{-1, 0, 1, 100, math.MaxInt} {
			wantCode(t, kinds(), p, f, args, w, fuel, api.Arg)
		}
	}
	for _, f := range []int{-1, -2, 4, 5, 32, 1 << 32, 1<<32 + 1, math.MaxInt, math.MinInt} {
		for _, args := range [][]uint64{nil, row(1), row(1, 2), row(1, 2, 3)} {
			try(f, args, w)
		}
	}
	for f, x := range p.Funcs {
		for n := range 9 {
			if n != len(x.Params) {
				try(f, make([]uint64, n), w)
			}
		}
		for _, secrets := range [][][]uint64{nil, {}, {row(1, 2)}, {row(3, 4, 5)}, {row(3, 4, 5), row(1, 2)}, {row(1, 2), row(3, 4)}, {row(1, 2), row(3, 4, 5, 6)}, {row(1), row(3, 4, 5)}, {row(1, 2, 3), row(3, 4, 5)}, {nil, row(3, 4, 5)}, {row(1, 2), nil}, {nil, nil}, {row(1, 2), row(3, 4, 5), nil}, {nil, row(1, 2), row(3, 4, 5)}, {row(1, 2, 3, 4, 5)}, {row(1, 2, 3, 4, 5), nil}} {
			try(f, make([]uint64, len(x.Params)), world(count(4), secrets...))
		}
		for _, n := range []int{513, 514, 1024, 65536} {
			try(f, make([]uint64, len(x.Params)), world(count(n), w.Secrets...))
		}
	}
	for shared := range 6 {
		w.Shared = count(shared)
		for _, at := range []uint64{uint64(max(shared-1, 0)), uint64(shared), uint64(shared) + 1, 512, 1 << 24, 1<<24 + 8, 1 << 61, 1<<61 + 1, least - 1, least, all - 2, all - 1, all} {
			try(2, row(0, at), w)
			try(1, row(0, at, 0), w)
		}
		if shared >= 2 {
			if _, _, e := irsem.Run(kinds(), p, 2, row(0, uint64(shared-2)), w, 100); e != api.OK {
				t.Errorf("P14.1: %d", e)
			}
		}
	}
}

// TestWrongAddresses: those at which no word begins.
func TestWrongAddresses(t *testing.T) {
	for _, sizes := range [][]int{{0, 0}, {0, 1}, {1, 0}, {1, 1}, {5, 4}, {64, 512}} {
		hidden, shared := sizes[0], sizes[1]
		s, w := "", world(count(shared))
		if hidden > 0 {
			s, w.Secrets = fmt.Sprintf("(secret k %d)", hidden), [][]uint64{count(hidden)}
		}
		p := parsed(t, s+"(fun g (a) (ret a)) (fun f (a) (ret a))")
		there := map[uint64]int{}
		for i := range hidden {
			there[1<<20+8*uint64(i)]++
		}
		for i := range shared {
			there[1<<24+8*uint64(i)]++
		}
		var tried []uint64
		for _, from := range []uint64{0, 1 << 20, 1<<20 + 8*uint64(hidden), 1<<20 + 4*uint64(hidden), 1 << 21, 1 << 23, 1 << 24, 1<<24 + 8*uint64(shared), 1<<24 + 4*uint64(shared), 1 << 32, 1<<32 + 1<<20, 1<<32 + 1<<24, least, least + 1<<20, least + 1<<24, all, 1 << 61, 1<<61 + 1<<20, 1<<61 + 1<<24, all - 1<<20, all - 1<<24, 1<<63 - 1<<20} {
			for k := range uint64(33) {
				tried = append(tried, from+k-16)
			}
		}
		for _, a := range tried {
			code := api.Refused
			if there[a] > 0 {
				code = api.OK
			}
			for _, lines := range [][]api.Line{{load(2, 1), ret(1)}, {store(1, 2), ret(1)}, {load(1, 1), ret(2)}, {call(2, "g", 1), ret(2)}} {
				l := []api.Routine{routine("g", 1, 1, load(1, 1), ret(1)), routine("f", 1, 2, lines...)}
				if code != api.OK {
					wantCode(t, l, p, 1, row(a), w, 9, code, fmt.Sprintf("%#x", a))
				} else if _, _, e := irsem.Run(l, p, 1, row(a), w, 9); e != code {
					t.Errorf("P14.1: %#x: %d; want %d", a, e, code)
				}
			}
		}
	}
}

// TestRefusedTellsNothing: what was opened, stored and shown ahead isn't told.
func TestRefusedTellsNothing(t *testing.T) {
	p := parsed(t, "(secret k 2) (fun g (a) (ret a)) (fun f (a (ptr p 1)) (ret a))")
	w := world(row(1, 2), row(3, 4))
	l := []api.Routine{
		routine("g", 1, 2, store(1, 2), ret(1)),
		routine("f", 2, 4, open(1), store(2, 1), addr(3, "k"), store(3, 1), two(api.Divu, 4, 1, 1), call(4, "g", 1), ret(1)),
	}
	wantCode(t, l, p, 1, row(1, 0), w, 100, api.Refused)
	if !sameWorld(w, world(row(1, 2), row(3, 4))) {
		t.Errorf("rule 4: %v", w)
	}
	if got := wantAsSlow(t, l, p, 1, row(1<<20+8, 0), w, 100); got.code != api.OK || len(got.outcome.Opened) != 1 {
		t.Errorf("the test is wrong: %v", got)
	}
}

// TestBeyondWhatMayBe: routines of more than 20000 lines may not be a source's, though they were lowered from one that is right.
func TestBeyondWhatMayBe(t *testing.T) {
	for n, code := range map[int]api.Code{1817: api.OK, 1818: api.Arg} {
		p := parsed(t, "(fun f () "+strings.Repeat("(for i 1)", n)+"(ret 7))")
		l := lowered(t, p)
		o, _, e := irsem.Run(l, p, 0, nil, api.World{}, math.MaxInt)
		if e != code || e == api.OK && o.Value != 7 {
			t.Errorf("P14.1: %d lines: %d, %v; want %d", len(l[0].Lines), e, o, code)
		}
	}
}
