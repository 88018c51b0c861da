package ir_test

import (
	"fmt"
	"math"
	"strings"
	"testing"

	"caponier/api"
	"caponier/ir"
	"caponier/sec"
	"caponier/sem"
	"caponier/tree"
)

const all = uint64(math.MaxUint64)

// The lines, each kind.

func number(d int, n uint64) api.Line     { return api.Line{Op: api.LConst, D: d, Num: n} }
func two(op uint64, d, a, b int) api.Line { return api.Line{Op: api.LTwo, D: d, A: a, B: b, Num: op} }
func copied(d, a int) api.Line            { return api.Line{Op: api.LCopy, D: d, A: a} }
func addr(d int, name string) api.Line    { return api.Line{Op: api.LAddr, D: d, Name: name} }
func load(d, a int) api.Line              { return api.Line{Op: api.LLoad, D: d, A: a} }
func store(a, b int) api.Line             { return api.Line{Op: api.LStore, A: a, B: b} }
func jump(n uint64) api.Line              { return api.Line{Op: api.LJump, Num: n} }
func zero(a int, n uint64) api.Line       { return api.Line{Op: api.LZero, A: a, Num: n} }
func label(n uint64) api.Line             { return api.Line{Op: api.LLabel, Num: n} }
func call(d int, f string, l ...int) api.Line {
	return api.Line{Op: api.LCall, D: d, Name: f, Args: l}
}
func open(a int) api.Line { return api.Line{Op: api.LOpen, A: a} }
func ret(a int) api.Line  { return api.Line{Op: api.LRet, A: a} }

// pointed are the lines by which the register d+4 becomes the address of an element of n words at which a pointer points.
func pointed(d int, n uint64, index, pointer int) []api.Line {
	return []api.Line{number(d, n), two(api.Remu, d+1, index, d), number(d+2, 3), two(api.Sll, d+3, d+1, d+2), two(api.Add, d+4, pointer, d+3)}
}

// hidden are the lines by which the register d+5 becomes the address of an element of a secret array of n words.
func hidden(d int, n uint64, index int, array string) []api.Line {
	return []api.Line{number(d, n), two(api.Remu, d+1, index, d), number(d+2, 3), two(api.Sll, d+3, d+1, d+2), addr(d+4, array), two(api.Add, d+5, d+4, d+3)}
}

// chosen are the lines by which the register d+5 becomes a, or b.
func chosen(d, c, a, b int) []api.Line {
	return []api.Line{number(d, 0), two(api.Sltu, d+1, d, c), two(api.Sub, d+2, d, d+1), two(api.Xor, d+3, a, b), two(api.And, d+4, d+3, d+2), two(api.Xor, d+5, d+4, b)}
}

// lines puts lines, and rows of these, one behind the other.
func lines(l ...any) []api.Line {
	var out []api.Line
	for _, x := range l {
		switch x := x.(type) {
		case api.Line:
			out = append(out, x)
		case []api.Line:
			out = append(out, x...)
		}
	}
	return out
}

// routine is one of these lines.
func routine(name string, params, regs int, l ...any) api.Routine {
	return api.Routine{Name: name, Params: params, Regs: regs, Lines: lines(l...)}
}

// short is a source in few characters, since some are great.
func short(p api.Prog) string {
	s, e := tree.Print(p)
	if e != api.OK {
		s = "a tree that can't be printed"
	}
	if len(s) > 1500 {
		return s[:1500] + ".."
	}
	return s
}

// parsed is a source's tree.
func parsed(t *testing.T, s string) api.Prog {
	t.Helper()
	p, e := tree.Parse(s)
	if e != api.OK {
		t.Fatalf("the test is wrong: %s: %d", s, e)
	}
	return p
}

// wantLowered wants a tree's routines to be what the tests' own way tells, and such as may be.
func wantLowered(t *testing.T, p api.Prog) []api.Routine {
	t.Helper()
	l, e := ir.Lower(p)
	want := slowLower(p)
	if e != api.OK || text(l) != text(want) {
		t.Errorf("P13.1: %s: %d\n%s; want\n%s", short(p), e, text(l), text(want))
	}
	if !ir.Same(l, want) || !ir.Same(want, l) {
		t.Errorf("P13.3: %s: they aren't alike", short(p))
	}
	if !ir.May(l, p) || !slowMay(l, p) {
		t.Errorf("P13.3: %s: they may not be", short(p))
	}
	return l
}

// wantRoutines wants a source to become just these.
func wantRoutines(t *testing.T, s string, want ...api.Routine) {
	t.Helper()
	l := wantLowered(t, parsed(t, s))
	if text(l) != text(want) {
		t.Errorf("P13.1: %s:\n%s; want\n%s", s, text(l), text(want))
	}
	if !ir.Same(l, want) {
		t.Errorf("P13.3: %s: they aren't alike", s)
	}
}

// wantLast wants a source's last function to become these lines, with so many registers.
func wantLast(t *testing.T, s string, regs int, want ...any) {
	t.Helper()
	p := parsed(t, s)
	l := wantLowered(t, p)
	f := p.Funcs[len(p.Funcs)-1]
	got, r := l[len(l)-1:], []api.Routine{routine(f.Name, len(f.Params), regs, want...)}
	if text(got) != text(r) {
		t.Errorf("P13.1: %s:\n%s; want\n%s", s, text(got), text(r))
	}
}

// TestExample is the chapter's, which is the README's too, and the calls that this makes of it.
func TestExample(t *testing.T) {
	p := parsed(t, "(fun f (a) (ret (add a 1)))")
	l := wantLowered(t, p)
	if l[0].Lines[2].A = 4; ir.May(l, p) {
		t.Error("P13.2: register 4 of 3 may be")
	}
	wantRoutines(t, "(fun f (a) (ret (add a 1)))", routine("f", 1, 3, number(2, 1), two(api.Add, 3, 1, 2), ret(3)))
	wantRoutines(t, "(secret k 2) (fun g ((sec b)) (ret b)) (export f (i) (ret (open (call g (get k i)))))",
		routine("g", 1, 1, ret(1)),
		routine("f", 1, 9, hidden(2, 2, 1, "k"), load(8, 7), call(9, "g", 8), open(9), ret(9)))
}

// TestNoFunctions: without functions there are no routines, and none but none may be.
func TestNoFunctions(t *testing.T) {
	wantRoutines(t, "")
	wantRoutines(t, "(secret k 64) (secret l 1)")
	for _, p := range []api.Prog{{}, {Secrets: []api.Array{}, Funcs: []api.Func{}}} {
		if l, e := ir.Lower(p); e != api.OK || len(l) != 0 {
			t.Errorf("P13.1: %v, %d", l, e)
		}
		if !ir.May(nil, p) || !ir.May([]api.Routine{}, p) || ir.May([]api.Routine{{}}, p) || ir.May([]api.Routine{routine("f", 0, 1, number(1, 0), ret(1))}, p) {
			t.Error("P13.2: without functions")
		}
	}
}

// TestReturns: functions whose statements are a single return, without parameters, and with up to six.
func TestReturns(t *testing.T) {
	wantLast(t, "(fun f () (ret 0))", 1, number(1, 0), ret(1))
	wantLast(t, "(export f () (ret 18446744073709551615))", 1, number(1, all), ret(1))
	wantLast(t, "(fun f () (ret x))", 1, number(1, 0), ret(1))
	wantLast(t, "(fun f () (ret f))", 1, number(1, 0), ret(1))
	names := []string{"a", "b", "c", "d", "e", "g"}
	for n := 1; n <= 6; n++ {
		for i, name := range names[:n] {
			wantLast(t, "(fun f ("+strings.Join(names[:n], " ")+") (ret "+name+"))", n, ret(i+1))
			wantLast(t, "(export f ("+strings.Join(names[:n], " ")+") (ret 7))", n+1, number(n+1, 7), ret(n+1))
			wantLast(t, "(fun f ("+strings.Join(names[:n], " ")+") (ret (open "+name+")))", n, open(i+1), ret(i+1))
		}
	}
	wantLast(t, "(fun f (a (sec b) (ptr c 1) d (sec e) (ptr g 64)) (ret e))", 6, ret(5))
}

// TestVariables: those that are set, looped over, and used only, get their registers in the order in which they stand first.
func TestVariables(t *testing.T) {
	for s, want := range map[string]string{
		"(set x 1) (set y 2)":                 "x y",
		"(set x y)":                           "y x",
		"(set x (add y (add z y)))":           "y z x",
		"(set x (add x y))":                   "x y",
		"(set x (sel u v w))":                 "u v w x",
		"(set x (open y)) (set y z)":          "y x z",
		"(for i 2)":                           "i",
		"(for i 2 (set x y))":                 "i y x",
		"(for i 2 (set x i)) (for i 3)":       "i x",
		"(for i 2 (for j 2 (set x j)))":       "i j x",
		"(if x ((set y 1)) ((set z 1)))":      "x y z",
		"(if 0 () ((set z w)))":               "w z",
		"(if (add u v) ((set v w)) ())":       "u v w",
		"(put k x y)":                         "x y",
		"(put k (get p y) x)":                 "y x",
		"(set x (get k y))":                   "y x",
		"(set x (get p (add y z)))":           "y z x",
		"(set x (call g p y z))":              "y z x",
		"(set x (call g p (call g p z y) w))": "z y w x",
		"(set x (call g q a x)) (put q x y)":  "x y",
		"(set a x)":                           "x",
		"(set a (add a s))":                   "",
		"(for a 2 (set x a))":                 "x",
		"(for s 2) (set s x)":                 "x",
		"(set g 1) (set f g)":                 "g f",
	} {
		p := parsed(t, "(secret k 2) (fun g ((ptr q 1) (sec b) c) (ret c)) (fun f (a (ptr p 2) (sec s) (ptr q 1)) "+s+" (ret (add last a)))")
		r := wantLowered(t, p)[1]
		names := append(strings.Fields(want), "last")
		for i := range names {
			if r.Lines[i].Op != api.LConst || r.Lines[i].D != 5+i || r.Lines[i].Num != 0 {
				t.Errorf("P13.1: %s: line %d is %v", s, i, r.Lines[i])
			}
		}
		// The last one's register, and that no other variable has one.
		if end := r.Lines[len(r.Lines)-2]; end.A != 4+len(names) || end.B != 1 {
			t.Errorf("P13.1: %s: %v; want %d as last's register", s, end, 4+len(names))
		}
	}
	wantLast(t, "(fun f (a) (set y x) (set x (add y a)) (ret z))", 5, number(2, 0), number(3, 0), number(4, 0), copied(3, 2), two(api.Add, 5, 3, 1), copied(2, 5), ret(4))
	wantLast(t, "(fun f (a) (set a 5) (ret a))", 2, number(2, 5), copied(1, 2), ret(1))
	wantLast(t, "(fun f (a b) (set a b) (set b a) (ret a))", 2, copied(1, 2), copied(2, 1), ret(1))
	wantLast(t, "(fun f () (set x x) (ret x))", 1, number(1, 0), copied(1, 1), ret(1))
}

// operations are all words of operations, in the order of their numbers.
func operations() map[string]uint64 {
	return map[string]uint64{"add": 0, "sub": 1, "shl": 2, "slt": 3, "sltu": 4, "xor": 5, "shr": 6, "sar": 7, "or": 8, "and": 9, "mul": 10, "divu": 13, "remu": 15}
}

// TestOperations: each of thirteen, of words and of each other.
func TestOperations(t *testing.T) {
	for word, op := range operations() {
		wantLast(t, "(fun f (a b) (ret ("+word+" a b)))", 3, two(op, 3, 1, 2), ret(3))
		wantLast(t, "(fun f (a b) (ret ("+word+" b b)))", 3, two(op, 3, 2, 2), ret(3))
		wantLast(t, "(fun f () (ret ("+word+" 0 18446744073709551615)))", 3, number(1, 0), number(2, all), two(op, 3, 1, 2), ret(3))
		wantLast(t, "(fun f (a) (set x ("+word+" (sub a 1) (shl 2 x))) (ret x))", 7, number(2, 0), number(3, 1), two(api.Sub, 4, 1, 3), number(5, 2), two(api.Sll, 6, 5, 2), two(op, 7, 4, 6), copied(2, 7), ret(2))
	}
}

// TestElements: of a secret array, and of a pointer, got and put, of 1 and of 64 words too.
func TestElements(t *testing.T) {
	for _, n := range []uint64{1, 2, 3, 63, 64} {
		head := fmt.Sprintf("(secret l 5) (secret k %d) (fun f (a (ptr p %d) b) ", n, n)
		wantLast(t, head+"(ret (get p a)))", 9, pointed(4, n, 1, 2), load(9, 8), ret(9))
		wantLast(t, head+"(ret (get k b)))", 10, hidden(4, n, 3, "k"), load(10, 9), ret(10))
		wantLast(t, head+"(put p a b) (ret a))", 8, pointed(4, n, 1, 2), store(8, 3), ret(1))
		wantLast(t, head+"(put k b a) (ret a))", 9, hidden(4, n, 3, "k"), store(9, 1), ret(1))
		wantLast(t, head+"(put k 1 2) (ret a))", 11, number(4, 1), number(5, 2), hidden(6, n, 4, "k"), store(11, 5), ret(1))
		wantLast(t, head+"(ret (get p 18446744073709551615)))", 10, number(4, all), pointed(5, n, 4, 2), load(10, 9), ret(10))
		wantLast(t, head+"(ret (get k (get p (get p a)))))", 22, pointed(4, n, 1, 2), load(9, 8), pointed(10, n, 9, 2), load(15, 14), hidden(16, n, 15, "k"), load(22, 21), ret(22))
		// The index, then the value, then the address.
		wantLast(t, head+"(put k (get p b) (get l (add a 1))) (ret b))", 24, pointed(4, n, 3, 2), load(9, 8), number(10, 1), two(api.Add, 11, 1, 10), hidden(12, 5, 11, "l"), load(18, 17), hidden(19, n, 9, "k"), store(24, 18), ret(3))
	}
	// Each array is asked for where it is needed, again and again.
	wantLast(t, "(secret k 2) (fun f (a) (put k a (get k a)) (ret (get k a)))", 21, hidden(2, 2, 1, "k"), load(8, 7), hidden(9, 2, 1, "k"), store(14, 8), hidden(15, 2, 1, "k"), load(21, 20), ret(21))
	// Pointers at different numbers of words, at any place.
	wantLast(t, "(export f ((ptr p 7) (ptr q 9)) (put q (get p 0) 1) (ret 2))", 16, number(3, 0), pointed(4, 7, 3, 1), load(9, 8), number(10, 1), pointed(11, 9, 9, 2), store(15, 10), number(16, 2), ret(16))
}

// TestChoices: a choice jumps nowhere.
func TestChoices(t *testing.T) {
	wantLast(t, "(fun f (c a b) (ret (sel c a b)))", 9, chosen(4, 1, 2, 3), ret(9))
	wantLast(t, "(fun f (a) (ret (sel a a a)))", 7, chosen(2, 1, 1, 1), ret(7))
	wantLast(t, "(fun f (a) (ret (sel 5 a 6)))", 9, number(2, 5), number(3, 6), chosen(4, 2, 1, 3), ret(9))
	wantLast(t, "(fun f (a b) (ret (sel (sel a b 1) (sel b 2 a) (open b))))", 22,
		number(3, 1), chosen(4, 1, 2, 3), number(10, 2), chosen(11, 2, 10, 1), open(2), chosen(17, 9, 16, 2), ret(22))
	wantLast(t, "(secret k 1) (fun f () (ret (sel (get k 0) 1 2)))", 16, number(1, 0), hidden(2, 1, 1, "k"), load(8, 7), number(9, 1), number(10, 2), chosen(11, 8, 9, 10), ret(16))
}

// TestOpened: what is opened stays where it is.
func TestOpened(t *testing.T) {
	wantLast(t, "(fun f (a) (set x (open a)) (ret (open (open x))))", 2, number(2, 0), open(1), copied(2, 1), open(2), open(2), ret(2))
	wantLast(t, "(fun f (a) (ret (add (open a) (open (add a (open 3))))))", 4, open(1), number(2, 3), open(2), two(api.Add, 3, 1, 2), open(3), two(api.Add, 4, 1, 3), ret(4))
}

// TestCalls: words and pointers among arguments, in each order; words' lines come in theirs, pointers have none.
func TestCalls(t *testing.T) {
	for n := range 7 {
		for pointers := range 1 << n { // a bit for each parameter that is one
			var params, args, own []string
			var want []any
			var regs []int
			next := 3
			for i := range n {
				name := string(rune('a' + i))
				if pointers>>i&1 == 1 {
					params, args = append(params, fmt.Sprintf("(ptr %s %d)", name, 1+i%2)), append(args, []string{"p", "q"}[i%2])
					regs = append(regs, 1+i%2)
					continue
				}
				params, args = append(params, []string{name, "(sec " + name + ")"}[i%2]), append(args, fmt.Sprint(10+i))
				want = append(want, number(next, uint64(10+i)))
				regs = append(regs, next)
				own = append(own, name)
				next++
			}
			want = append(want, call(next, "g", regs...), ret(next))
			wantLast(t, "(fun g ("+strings.Join(params, " ")+") (ret 1)) (fun f ((ptr p 1) (ptr q 2)) (ret (call g "+strings.Join(args, " ")+")))", next, want...)
		}
	}
	wantLast(t, "(fun g () (ret 1)) (fun f () (ret (call g)))", 1, call(1, "g"), ret(1))
	wantLast(t, "(fun g (a) (ret a)) (fun h () (ret 1)) (fun f (a) (ret (add (call g a) (call h))))", 4, call(2, "g", 1), call(3, "h"), two(api.Add, 4, 2, 3), ret(4))
	wantLast(t, "(fun g (a (ptr p 1) b) (ret a)) (fun f (x (ptr p 1)) (ret (call g (call g 1 p x) p (call g (open x) p (get p x)))))", 12,
		number(3, 1), call(4, "g", 3, 2, 1), open(1), pointed(5, 1, 1, 2), load(10, 9), call(11, "g", 1, 2, 10), call(12, "g", 4, 2, 11), ret(12))
	// A function that is named as a variable is.
	wantLast(t, "(fun g (a) (ret a)) (fun f () (set g 2) (ret (call g g)))", 3, number(1, 0), number(2, 2), copied(1, 2), call(3, "g", 1), ret(3))
}

// TestSeveral: routines come in the functions' order, each with registers and labels of its own.
func TestSeveral(t *testing.T) {
	wantRoutines(t, "(fun g (a) (if a () ()) (ret x)) (export e ((ptr p 2)) (for i 2) (ret i)) (fun h () (set x 3) (if x ((set y x)) ()) (ret y))",
		routine("g", 1, 2, number(2, 0), zero(1, 1), jump(2), label(1), label(2), ret(2)),
		routine("e", 1, 7, number(2, 0), number(3, 0), label(1), number(4, 2), two(api.Sltu, 5, 3, 4), zero(5, 2), copied(2, 3), number(6, 1), two(api.Add, 7, 3, 6), copied(3, 7), jump(1), label(2), ret(2)),
		routine("h", 0, 3, number(1, 0), number(2, 0), number(3, 3), copied(1, 3), zero(1, 1), copied(2, 1), jump(2), label(1), label(2), ret(2)))
}

// looped are the lines ahead of a loop's statements, and behind them: registers from d on, and from e on; a variable's register; the labels.
func looped(d int, times uint64, variable int, again, end uint64) []api.Line {
	return []api.Line{number(d, 0), label(again), number(d+1, times), two(api.Sltu, d+2, d, d+1), zero(d+2, end), copied(variable, d)}
}

func loopEnd(e, count int, again, end uint64) []api.Line {
	return []api.Line{number(e, 1), two(api.Add, e+1, count, e), copied(count, e+1), jump(again), label(end)}
}

// TestLoops: of one round, and of 64; empty ones; one variable in two loops; a parameter as one; loops within loops.
func TestLoops(t *testing.T) {
	for _, n := range []uint64{1, 2, 63, 64} {
		wantLast(t, fmt.Sprintf("(fun f () (for i %d) (ret i))", n), 6, number(1, 0), looped(2, n, 1, 1, 2), loopEnd(5, 2, 1, 2), ret(1))
		wantLast(t, fmt.Sprintf("(fun f (a) (for a %d (set x a)) (ret x))", n), 7, number(2, 0), looped(3, n, 1, 1, 2), copied(2, 1), loopEnd(6, 3, 1, 2), ret(2))
	}
	wantLast(t, "(fun f () (for i 2 (set x i)) (for i 3) (ret x))", 12, number(1, 0), number(2, 0), looped(3, 2, 1, 1, 2), copied(2, 1), loopEnd(6, 3, 1, 2), looped(8, 3, 1, 3, 4), loopEnd(11, 8, 3, 4), ret(2))
	wantLast(t, "(fun f () (for i 2 (for j 3 (set x (add i j)))) (ret x))", 14, number(1, 0), number(2, 0), number(3, 0),
		looped(4, 2, 1, 1, 2), looped(7, 3, 2, 3, 4), two(api.Add, 10, 1, 2), copied(3, 10), loopEnd(11, 7, 3, 4), loopEnd(13, 4, 1, 2), ret(3))
}

// TestIfs: with empty lists, and one within the other. A label is new where it is named first: the one behind both lists behind all of the first.
func TestIfs(t *testing.T) {
	wantLast(t, "(fun f (a) (if a () ()) (ret a))", 1, zero(1, 1), jump(2), label(1), label(2), ret(1))
	wantLast(t, "(fun f (a) (if a ((set a 1)) ()) (ret a))", 2, zero(1, 1), number(2, 1), copied(1, 2), jump(2), label(1), label(2), ret(1))
	wantLast(t, "(fun f (a) (if a () ((set a 1))) (ret a))", 2, zero(1, 1), jump(2), label(1), number(2, 1), copied(1, 2), label(2), ret(1))
	wantLast(t, "(fun f (a b) (if (add a b) ((set a 1)) ((set b 2) (set a 3))) (ret a))", 6, two(api.Add, 3, 1, 2), zero(3, 1), number(4, 1), copied(1, 4), jump(2), label(1), number(5, 2), copied(2, 5), number(6, 3), copied(1, 6), label(2), ret(1))
	wantLast(t, "(fun f (a) (if 0 ((if 1 () ())) ((if 2 () ()))) (ret a))", 4,
		number(2, 0), zero(2, 1), number(3, 1), zero(3, 2), jump(3), label(2), label(3), jump(4), label(1), number(4, 2), zero(4, 5), jump(6), label(5), label(6), label(4), ret(1))
	wantLast(t, "(fun f (a b c) (if a ((if b ((if c () ())) ())) ()) (ret a))", 3,
		zero(1, 1), zero(2, 2), zero(3, 3), jump(4), label(3), label(4), jump(5), label(2), label(5), jump(6), label(1), label(6), ret(1))
}

// TestIfsAndLoops: ifs within loops, and loops within ifs, tell the order of new labels and registers.
func TestIfsAndLoops(t *testing.T) {
	wantLast(t, "(fun f (a) (for i 4 (if i ((set a 5)) ())) (ret a))", 8, number(2, 0),
		looped(3, 4, 2, 1, 2), zero(2, 3), number(6, 5), copied(1, 6), jump(4), label(3), label(4), loopEnd(7, 3, 1, 2), ret(1))
	wantLast(t, "(fun f (a) (if a ((for i 4)) ((for j 5))) (ret a))", 13, number(2, 0), number(3, 0),
		zero(1, 1), looped(4, 4, 2, 2, 3), loopEnd(7, 4, 2, 3), jump(4), label(1), looped(9, 5, 3, 5, 6), loopEnd(12, 9, 5, 6), label(4), ret(1))
	wantLast(t, "(fun f (a) (for i 2 (if a ((for j 3 (if j () ()))) ())) (ret a))", 13, number(2, 0), number(3, 0),
		looped(4, 2, 2, 1, 2), zero(1, 3), looped(7, 3, 3, 4, 5), zero(3, 6), jump(7), label(6), label(7), loopEnd(10, 7, 4, 5), jump(8), label(3), label(8), loopEnd(12, 4, 1, 2), ret(1))
}

// nestable are expressions, of which % is one.
func nestable() []string {
	return []string{"1", "b", "c", "(get p (open %))", "(get k (open %))", "(add % b)", "(sub b %)", "(sel % a b)", "(sel a % b)", "(sel a b %)", "(call g p %)", "(open %)", "(mul % %)"}
}

// TestDeep: each kind of expression, and of statement, one within another.
func TestDeep(t *testing.T) {
	head := "(secret k 3) (fun g ((ptr p 2) (sec x)) (ret (open x))) (fun f (a b (ptr p 2)) "
	kinds := nestable()
	within := func(s, e string) string { return strings.ReplaceAll(s, "%", e) }
	for _, x := range kinds {
		for _, y := range kinds {
			for _, z := range kinds {
				e := within(x, within(y, within(z, "a")))
				for _, s := range []string{"(set c %)", "(put k (open %) 1)", "(put k 1 %)", "(put p 0 (open %))", "(if (open %) ((set d %)) ((put k 0 %)))", "(for i 2 (set c %) (if i ((for j 3 (put k j %))) ()))"} {
					wantLowered(t, parsed(t, head+within(s, e)+" (ret "+e+"))"))
				}
			}
		}
	}
	for first := range kinds {
		e := "a"
		for i := range 10 {
			if e = within(kinds[(first+i)%12], e); !strings.Contains(e, "a") {
				e = "(add a " + e + ")"
			}
			wantLowered(t, parsed(t, head+"(set x "+e+") (ret x))"))
		}
	}
	// As deep as may be.
	wantLowered(t, parsed(t, head+"(ret "+strings.Repeat("(get p ", 22)+"b"+strings.Repeat(")", 22)+"))"))
	for _, l := range [][]string{{"(if a (", ") ())"}, {"(if a () (", "))"}, {"(if a ((for i 1) ", ") ((set b i)))"}} {
		for n := range 11 {
			wantLowered(t, parsed(t, head+strings.Repeat(l[0], n)+"(set b (add b 1))"+strings.Repeat(l[1], n)+" (ret b))"))
		}
	}
	for n := range 20 {
		s := "(set b 1)"
		for i := range n {
			s = fmt.Sprintf("(for i%d 1 %s (set c i%d))", i, s, i)
		}
		wantLowered(t, parsed(t, head+s+" (ret b))"))
	}
}

// TestGreatSources: 32 functions, as dear as may be.
func TestGreatSources(t *testing.T) {
	s := "(secret k 64)"
	for i := range 32 {
		s += fmt.Sprintf("(fun f%d (a) %s(ret a))", i, strings.Repeat("(put k a 3)(set a(sel a 1 2))", 15))
	}
	p := parsed(t, s)
	if l := wantLowered(t, p); len(l) != 32 || len(l[31].Lines) != 15*(1+7+2+6+1)+1 {
		t.Errorf("P13.1: %d", len(l[31].Lines))
	}
	wantLowered(t, parsed(t, "(fun f () "+strings.Repeat("(for i 1)", 1800)+"(ret 0))"))
}

// TestBeyondWhatMayBe: a right source whose loops are so many that its lines are more than 20000 is lowered as others are, but its routines may not be.
func TestBeyondWhatMayBe(t *testing.T) {
	for n, may := range map[int]bool{1: true, 1816: true, 1817: true, 1818: false, 1819: false, 1998: false} {
		p := parsed(t, "(fun f () "+strings.Repeat("(for i 1)", n)+"(ret 0))")
		l, e := ir.Lower(p)
		if e != api.OK || text(l) != text(slowLower(p)) || len(l[0].Lines) != 11*n+3 {
			t.Fatalf("P13.1: %d, %d", e, len(l))
		}
		if ir.May(l, p) != may || slowMay(l, p) != may {
			t.Errorf("P13.2: %d lines: %v", len(l[0].Lines), !may)
		}
	}
}

// TestLinesDoWhatSourcesDo holds what lines do against what the source does.
func TestLinesDoWhatSourcesDo(t *testing.T) {
	m := maker{newRand(1310)}
	runs, opened := 0, 0
	for range 1500 {
		p := m.prog()
		l, e := ir.Lower(p)
		if e != api.OK {
			continue
		}
		for f := range p.Funcs {
			w := m.world(p)
			args, ok := m.args(p.Funcs[f], w)
			if !ok {
				continue
			}
			want, e := sem.Run(p, f, args, w)
			got := runLines(l, p, f, args, w)
			if e != api.OK || fmt.Sprint(got) != fmt.Sprint(want) {
				t.Fatalf("P13.1: %s: %d of %v, %v: %d, %v; want %v", short(p), f, args, w, e, got, want)
			}
			runs++
			opened += min(len(got.Opened), 1)
		}
	}
	if runs < 1500 || opened < 700 {
		t.Errorf("the test is wrong: %d, %d", runs, opened)
	}
}

// TestSourcesAtRandom holds routines against the tests' own way.
func TestSourcesAtRandom(t *testing.T) {
	m := maker{newRand(1311)}
	counts := map[string]int{}
	for range 4000 {
		p := m.prog()
		if code := sec.Check(p); code != api.OK {
			wantCode(t, p, code)
			continue
		}
		counts["right"]++
		wantLowered(t, p)
		s, _ := tree.Print(p)
		for _, word := range []string{"(for ", "(if ", "(put ", "(set ", "(get ", "(call ", "(sel ", "(open ", " ()"} {
			counts[word] += strings.Count(s, word)
		}
	}
	for word, n := range counts {
		if n < 1000 {
			t.Errorf("the test is wrong: %d of %s", n, word)
		}
	}
}
