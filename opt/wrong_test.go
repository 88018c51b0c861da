package opt_test

import (
	"fmt"
	"math"
	"slices"
	"testing"

	"caponier/api"
	"caponier/ir"
	"caponier/opt"
)

// wantLeft wants a routine to stay as it is, folded or swept.
func wantLeft(t *testing.T, what string, r api.Routine) {
	t.Helper()
	wantDone(t, what+", folded", opt.Fold, r, r)
	wantDone(t, what+", swept", opt.Sweep, r, r)
}

// wantTaken wants a routine to be folded and swept, either of which changes it.
func wantTaken(t *testing.T, what string, r api.Routine) {
	t.Helper()
	folded, swept := slowFold(r), slowSweep(r)
	if text(folded) == text(r) || text(swept) == text(r) {
		t.Errorf("the test is wrong: %s: nothing changes", what)
	}
	wantFoldedSwept(t, what, r)
}

// worth are lines that may be folded and swept, of three registers.
func worth(l ...api.Line) []api.Line {
	return append(row(number(1, 5), copied(2, 1), number(3, 6)), l...)
}

// TestWrongRegisters: lines that have registers below 0 or above Regs, in each place, whatever their kind.
func TestWrongRegisters(t *testing.T) {
	for _, regs := range []int{3, 7, 100000} {
		for _, x := range append(kinds(), api.Line{Op: 12}, api.Line{Op: -1}) {
			for what, change := range map[string]func(x *api.Line, reg int){
				"D":              func(x *api.Line, reg int) { x.D = reg },
				"A":              func(x *api.Line, reg int) { x.A = reg },
				"B":              func(x *api.Line, reg int) { x.B = reg },
				"an argument":    func(x *api.Line, reg int) { x.Args = []int{reg} },
				"the last of it": func(x *api.Line, reg int) { x.Args = []int{1, 0, 2, reg} },
			} {
				for _, reg := range []int{0, 1, 3, regs, -1, regs + 1, -regs, 100001, math.MaxInt, math.MinInt, 1 << 32, 1<<32 + 1, -1 << 32} {
					y := loose(x, func(x *api.Line) { x.D, x.Args = min(x.D, 3), nil; change(x, reg) })
					for _, l := range [][]api.Line{worth(y), append(row(y), worth()...), worth(y, label(7), label(8))} {
						r := routine("f", 1, regs, l...)
						if what := fmt.Sprint(x.Op, ", ", what, " is ", reg, " of ", regs); reg >= 0 && reg <= regs {
							wantFoldedSwept(t, what, r)
						} else {
							wantLeft(t, what, r)
						}
					}
				}
			}
		}
	}
}

// TestRegs: from 0 to 100000.
func TestRegs(t *testing.T) {
	for _, regs := range []int{math.MinInt, -100000, -1, 0, 1, 2, 3, 4, 99999, 100000, 100001, 1 << 31, 1 << 32, 1<<32 + 5, math.MaxInt} {
		r := routine("f", 1, regs, worth(ret(2))...)
		if what := fmt.Sprint(regs, " registers"); regs >= 3 && regs <= 100000 {
			wantTaken(t, what, r)
		} else {
			wantLeft(t, what, r)
		}
		// Lines without a register.
		r = routine("f", 1, regs, number(0, 5), label(1), jump(2), label(3), label(2), ret(0))
		if what := fmt.Sprint(regs, " registers, none of them used"); regs >= 0 && regs <= 100000 {
			wantFoldedSwept(t, what, r)
			if len(opt.Sweep(r).Lines) != 3 {
				t.Errorf("P15.1: %s: %s", what, text(opt.Sweep(r)))
			}
		} else {
			wantLeft(t, what, r)
		}
		wantLeft(t, "no lines", routine("f", 1, regs))
	}
	last := row(number(100000, 5), copied(99999, 100000), number(99998, 5), ret(99999))
	wantTaken(t, "the last register", routine("f", 0, 100000, last...))
	wantLeft(t, "beyond the last register", routine("f", 0, 99999, last...))
}

// TestLines: at most 20000.
func TestLines(t *testing.T) {
	for _, n := range []int{1, 2, 19999, 20000, 20001, 20002, 40000} {
		open3 := slices.Repeat(row(open(3)), max(n-4, 0))
		l := slices.Concat(worth(open3...), row(ret(1)))[max(4-n, 0):]
		if len(l) != n {
			t.Fatalf("the test is wrong: %d lines; want %d", len(l), n)
		}
		r := routine("f", 0, 3, l...)
		folded, swept := r, r
		if n >= 4 && n <= 20000 {
			folded.Lines = slices.Concat(row(number(1, 5), number(2, 5), number(3, 6)), open3, row(ret(1)))
			swept.Lines = slices.Concat(row(number(1, 5), number(3, 6)), open3, row(ret(1)))
		}
		if n == 2 { // a number for which none asks, and the return
			swept.Lines = row(ret(1))
		}
		wantDone(t, fmt.Sprint(n, " lines, folded"), opt.Fold, r, folded)
		wantDone(t, fmt.Sprint(n, " lines, swept"), opt.Sweep, r, swept)
		p := parsed(t, "(fun f () (ret 1))")
		l2, e := opt.All([]api.Routine{r}, p)
		if n > 20000 {
			if e != api.Arg || len(l2) != 0 {
				t.Errorf("P15.2: %d lines: %d, %d routines", n, e, len(l2))
			}
		} else if e != api.OK || texts(l2) != text(swept) {
			t.Errorf("P15.2: %d lines: %d, %s", n, e, few(texts(l2)))
		}
	}
	// All of them go, but the return.
	r := routine("f", 0, 100000, append(slices.Repeat(row(number(7, 1)), 19999), ret(1))...)
	wantDone(t, "all go", opt.Sweep, r, routine("f", 0, 100000, ret(1)))
	r = routine("f", 0, 1, append(slices.Repeat(row(label(1), open(1), jump(1)), 6666), label(2), ret(1))...)
	wantDone(t, "labels that are there often", opt.Fold, r, r)
}

// wantArg wants routines not to be made better, and nothing else to be told.
func wantArg(t *testing.T, what string, l []api.Routine, p api.Prog) {
	t.Helper()
	if ir.May(l, p) {
		t.Errorf("the test is wrong: %s: they may be the source's", what)
	}
	before := texts(l)
	if got, e := opt.All(l, p); e != api.Arg || len(got) != 0 {
		t.Errorf("P15.2: %s: %d, %d routines", what, e, len(got))
	}
	if texts(l) != before {
		t.Errorf("rule 3: %s: they were changed that were handed in", what)
	}
}

// full are routines of bench with each kind of line.
func full() []api.Routine {
	return onBench(number(4, 5), two(api.Mulhu, 5, 1, 4), copied(6, 5), addr(7, "l"), load(8, 7), store(7, 8), label(3), zero(8, 9), jump(3), label(9), call(9, "both", 1, 4), call(9, "none"), open(9), ret(9))
}

// changed are those, but for one change.
func changed(change func(l []api.Routine)) []api.Routine {
	l := full()
	change(l)
	return l
}

// TestWrongRoutines: routines that may not be the source's, by each lack that layer 13 names.
func TestWrongRoutines(t *testing.T) {
	p := parsed(t, bench)
	wantAll(t, "each kind of line", full(), p)
	for what, change := range map[string]func(l []api.Routine){
		"in another order":        func(l []api.Routine) { l[0], l[1] = l[1], l[0] },
		"another name":            func(l []api.Routine) { l[0].Name = "nobody" },
		"no name":                 func(l []api.Routine) { l[2].Name = "" },
		"too many parameters":     func(l []api.Routine) { l[0].Params = 1 },
		"too few parameters":      func(l []api.Routine) { l[2].Params = 2 },
		"fewer registers":         func(l []api.Routine) { l[2].Regs = 2 },
		"registers below 0":       func(l []api.Routine) { l[0].Regs = -1 },
		"too many registers":      func(l []api.Routine) { l[0].Regs = 100001 },
		"no lines":                func(l []api.Routine) { l[0].Lines = nil },
		"no lines in the last":    func(l []api.Routine) { l[2].Lines = row() },
		"too many lines":          func(l []api.Routine) { l[1].Lines = append(slices.Repeat(row(open(1)), 20000), ret(1)) },
		"no kind":                 func(l []api.Routine) { l[2].Lines[0].Op = 12 },
		"none either":             func(l []api.Routine) { l[2].Lines[0].Op = -1 },
		"D is 0":                  func(l []api.Routine) { l[2].Lines[0].D = 0 },
		"D is above Regs":         func(l []api.Routine) { l[2].Lines[0].D = 10 },
		"D is below 0":            func(l []api.Routine) { l[2].Lines[0].D = -1 },
		"A is 0":                  func(l []api.Routine) { l[2].Lines[2].A = 0 },
		"A is above Regs":         func(l []api.Routine) { l[2].Lines[2].A = 10 },
		"B is 0":                  func(l []api.Routine) { l[2].Lines[1].B = 0 },
		"B is below 0":            func(l []api.Routine) { l[2].Lines[1].B = -1 },
		"a number has an A":       func(l []api.Routine) { l[2].Lines[0].A = 1 },
		"a copy has a B":          func(l []api.Routine) { l[2].Lines[2].B = 1 },
		"a store has a D":         func(l []api.Routine) { l[2].Lines[5].D = 1 },
		"a label has an A":        func(l []api.Routine) { l[2].Lines[6].A = 1 },
		"a number has arguments":  func(l []api.Routine) { l[2].Lines[0].Args = []int{1} },
		"an argument is 0":        func(l []api.Routine) { l[2].Lines[10].Args[0] = 0 },
		"one is above Regs":       func(l []api.Routine) { l[2].Lines[10].Args[1] = 10 },
		"too many arguments":      func(l []api.Routine) { l[2].Lines[11].Args = []int{1} },
		"too few arguments":       func(l []api.Routine) { l[2].Lines[10].Args = []int{1} },
		"no operation of two":     func(l []api.Routine) { l[2].Lines[1].Num = 16 },
		"the label 0":             func(l []api.Routine) { l[2].Lines[6].Num = 0 },
		"a jump to 0":             func(l []api.Routine) { l[2].Lines[8].Num = 0 },
		"a copy has a number":     func(l []api.Routine) { l[2].Lines[2].Num = 1 },
		"a number has a name":     func(l []api.Routine) { l[2].Lines[0].Name = "l" },
		"no array":                func(l []api.Routine) { l[2].Lines[3].Name = "p" },
		"a call of itself":        func(l []api.Routine) { l[0].Lines[0] = call(1, "none") },
		"a call of one behind":    func(l []api.Routine) { l[0].Lines[0] = call(1, "both", 1, 1) },
		"a call of nobody":        func(l []api.Routine) { l[2].Lines[11].Name = "nobody" },
		"a label twice":           func(l []api.Routine) { l[2].Lines[9].Num = 3 },
		"a jump to no label":      func(l []api.Routine) { l[2].Lines[8].Num = 4 },
		"a zero to no label":      func(l []api.Routine) { l[2].Lines[7].Num = 4 },
		"no return":               func(l []api.Routine) { l[2].Lines[13] = open(9) },
		"two returns":             func(l []api.Routine) { l[2].Lines[12] = ret(9) },
		"a return behind a jump":  func(l []api.Routine) { l[2].Lines = slices.Insert(l[2].Lines, 9, ret(9)) },
		"a return that is first":  func(l []api.Routine) { l[2].Lines[0] = ret(9) },
		"what would be left out":  func(l []api.Routine) { l[2].Lines = slices.Insert(l[2].Lines, 9, number(0, 1)) },
		"a label where none goes": func(l []api.Routine) { l[2].Lines = slices.Insert(l[2].Lines, 9, jump(77)) },
	} {
		wantArg(t, what, changed(change), p)
	}
	for n := range 3 {
		wantArg(t, "too few", full()[:n], p)
		wantArg(t, "without the first", full()[n+1:], p)
	}
	wantArg(t, "none", nil, p)
	wantArg(t, "one more", append(full(), api.Routine{}), p)
	wantArg(t, "twice", append(full(), full()...), p)
	wantArg(t, "of another source", full(), parsed(t, "(fun f () (ret 1))"))
	wantArg(t, "of a source without functions", full(), api.Prog{})
}

// TestNone: without functions there are no routines.
func TestNone(t *testing.T) {
	for _, p := range []api.Prog{{}, {Secrets: []api.Array{}, Funcs: []api.Func{}}, parsed(t, "(secret k 2)")} {
		for _, l := range [][]api.Routine{nil, {}} {
			if got, e := opt.All(l, p); e != api.OK || len(got) != 0 {
				t.Errorf("P15.2: %d, %v", e, got)
			}
		}
		wantArg(t, "one of none", []api.Routine{{}}, p)
	}
}

// TestWrongSources: whether a source is right isn't asked, since layer 13 doesn't ask it of routines that may be its.
func TestWrongSources(t *testing.T) {
	for _, s := range []string{"(secret k 2) (export f () (ret (get k 0)))", "(fun f () (ret (call g)))", "(fun f () (for i 64 (for j 64)) (ret 0))"} {
		p := parsed(t, s)
		if _, e := ir.Lower(p); e == api.OK {
			t.Errorf("the test is wrong: %s", s)
		}
		l, _ := wantAll(t, s, []api.Routine{routine("f", 0, 2, number(1, 3), copied(2, 1), ret(2))}, p)
		if texts(l) != text(routine("f", 0, 2, number(2, 3), ret(2))) {
			t.Errorf("P15.2: %s: %s", s, texts(l))
		}
	}
}

// TestManyRoutines: many at once, of as many registers as may be.
func TestManyRoutines(t *testing.T) {
	var p api.Prog
	var l, want []api.Routine
	for i := range 1000 {
		name := fmt.Sprint("f", i)
		p.Funcs = append(p.Funcs, api.Func{Name: name})
		l = append(l, routine(name, 0, 100000, number(100000, 5), copied(99999, 100000), ret(99999)))
		want = append(want, routine(name, 0, 100000, number(99999, 5), ret(99999)))
	}
	if got, e := opt.All(l, p); e != api.OK || texts(got) != texts(want) {
		t.Errorf("P15.2: %d, %s", e, few(texts(got)))
	}
}
