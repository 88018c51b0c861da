package irsem_test

import (
	"fmt"
	"math"
	"slices"
	"testing"

	"caponier/alu"
	"caponier/api"
	"caponier/ir"
	"caponier/irsem"
	"caponier/tree"
)

const (
	all   = uint64(math.MaxUint64)
	least = uint64(1) << 63 // the least signed number
)

// The lines, each kind.

func number(d int, n uint64) api.Line     { return api.Line{Op: api.LConst, D: d, Num: n} }
func two(op uint64, d, a, b int) api.Line { return api.Line{Op: api.LTwo, D: d, A: a, B: b, Num: op} }
func copied(d, a int) api.Line            { return api.Line{Op: api.LCopy, D: d, A: a} }
func addr(d int, name string) api.Line    { return api.Line{Op: api.LAddr, D: d, Name: name} }
func load(d, a int) api.Line              { return api.Line{Op: api.LLoad, D: d, A: a} }
func store(a, b int) api.Line             { return api.Line{Op: api.LStore, A: a, B: b} }
func jump(n uint64) api.Line              { return api.Line{Op: api.LJump, Num: n} }
func zero(a int, n uint64) api.Line       { return api.Line{Op: api.LZero, A: a, Num: n} }
func label(n uint64) api.Line             { return api.Line{Op: api.LLabel, Num: n} }
func call(d int, f string, l ...int) api.Line {
	return api.Line{Op: api.LCall, D: d, Name: f, Args: l}
}
func open(a int) api.Line { return api.Line{Op: api.LOpen, A: a} }
func ret(a int) api.Line  { return api.Line{Op: api.LRet, A: a} }

// routine is one of these lines.
func routine(name string, params, regs int, l ...api.Line) api.Routine {
	return api.Routine{Name: name, Params: params, Regs: regs, Lines: l}
}

// What lines show.

func pc(routine, line uint64) api.Leak { return api.Leak{Kind: api.LeakPc, A: routine, B: line} }
func at(address uint64) api.Leak       { return api.Leak{Kind: api.LeakAt, A: address} }
func div(a, b uint64) api.Leak         { return api.Leak{Kind: api.LeakDiv, A: a, B: b} }

// pcs are the lines of a routine, from one to another.
func pcs(routine, from, to uint64) []api.Leak {
	var l []api.Leak
	for i := from; i <= to; i++ {
		l = append(l, pc(routine, i))
	}
	return l
}

// shown puts leaks, and rows of these, one behind the other.
func shown(l ...any) []api.Leak {
	var out []api.Leak
	for _, x := range l {
		switch x := x.(type) {
		case api.Leak:
			out = append(out, x)
		case []api.Leak:
			out = append(out, x...)
		}
	}
	return out
}

// neg is a negative number as a word.
func neg(n uint64) uint64 { return 0 - n }

func row(l ...uint64) []uint64 {
	return l
}

// count are so many words, each another.
func count(n int) []uint64 {
	var l []uint64
	for i := range n {
		l = append(l, 1000+uint64(i))
	}
	return l
}

func world(shared []uint64, secrets ...[]uint64) api.World {
	return api.World{Secrets: secrets, Shared: shared}
}

func sameWorld(a, b api.World) bool {
	return slices.EqualFunc(a.Secrets, b.Secrets, slices.Equal) && slices.Equal(a.Shared, b.Shared)
}

func same(a, b api.Outcome) bool {
	return a.Value == b.Value && slices.Equal(a.Opened, b.Opened) && sameWorld(a.World, b.World)
}

// short is a source in few characters, since some are great.
func short(p api.Prog) string {
	s, e := tree.Print(p)
	if e != api.OK {
		s = "a tree that can't be printed"
	}
	if len(s) > 1500 {
		return s[:1500] + ".."
	}
	return s
}

// few are the first of what was shown.
func few(l []api.Leak) string {
	if len(l) > 40 {
		return fmt.Sprint(l[:40], "..")
	}
	return fmt.Sprint(l)
}

// parsed is a source's tree.
func parsed(t *testing.T, s string) api.Prog {
	t.Helper()
	p, e := tree.Parse(s)
	if e != api.OK {
		t.Fatalf("the test is wrong: %s: %d", s, e)
	}
	return p
}

// lowered are a right source's routines.
func lowered(t *testing.T, p api.Prog) []api.Routine {
	t.Helper()
	l, e := ir.Lower(p)
	if e != api.OK {
		t.Fatalf("the test is wrong: %s: %d", short(p), e)
	}
	return l
}

// wantCode wants a call to answer a code, and nothing else to be told.
func wantCode(t *testing.T, l []api.Routine, p api.Prog, f int, args []uint64, w api.World, fuel int, code api.Code, what ...any) {
	t.Helper()
	o, leaks, e := irsem.Run(l, p, f, args, w, fuel)
	if e != code || !same(o, api.Outcome{}) || len(leaks) != 0 {
		t.Errorf("P14.1: %s %s: %d of %v, fuel %d: %d, %v, %s; want %d", fmt.Sprint(what...), short(p), f, args, fuel, e, o, few(leaks), code)
	}
	if n := irsem.Steps(l, p, f, args, w, fuel); n != -1 {
		t.Errorf("P14.2: %s %s: %d of %v, fuel %d: %d; want -1", fmt.Sprint(what...), short(p), f, args, fuel, n)
	}
}

// wantAsSlow wants a call to come to what the tests' own way tells.
func wantAsSlow(t *testing.T, l []api.Routine, p api.Prog, f int, args []uint64, w api.World, fuel int) slowAnswer {
	t.Helper()
	want := slowRun(l, p, f, args, w, fuel)
	if want.code != api.OK {
		wantCode(t, l, p, f, args, w, fuel, want.code)
		return want
	}
	o, leaks, e := irsem.Run(l, p, f, args, w, fuel)
	if e != api.OK || !same(o, want.outcome) {
		t.Errorf("P14.1: %s: %d of %v, %v: %d, %v; want %v", short(p), f, args, w, e, o, want.outcome)
	}
	if !slices.Equal(leaks, want.leaks) {
		t.Errorf("P14.1: %s: %d of %v, %v: shows %s; want %s", short(p), f, args, w, few(leaks), few(want.leaks))
	}
	if n := irsem.Steps(l, p, f, args, w, fuel); n != want.steps {
		t.Errorf("P14.2: %s: %d of %v, %v: %d; want %d", short(p), f, args, w, n, want.steps)
	}
	return want
}

// wantRun wants a call to come to an outcome, and to show this, with just as much fuel as it has steps, and with more; not with less.
func wantRun(t *testing.T, l []api.Routine, p api.Prog, f int, args []uint64, w api.World, want api.Outcome, leaks []api.Leak) {
	t.Helper()
	steps := 0
	for _, x := range leaks {
		if x.Kind == api.LeakPc {
			steps++
		}
	}
	for _, fuel := range []int{steps, steps + 1, 1000, math.MaxInt} {
		got := wantAsSlow(t, l, p, f, args, w, fuel)
		o, s, e := irsem.Run(l, p, f, args, w, fuel)
		if e != api.OK || !same(o, want) {
			t.Errorf("P14.1: %v: %d of %v, fuel %d: %d, %v; want %v", l, f, args, fuel, e, o, want)
		}
		if !slices.Equal(s, leaks) {
			t.Errorf("P14.1: %v: %d of %v, fuel %d: shows %s; want %s", l, f, args, fuel, few(s), few(leaks))
		}
		if n := irsem.Steps(l, p, f, args, w, fuel); n != steps || got.steps != steps {
			t.Errorf("P14.2: %v: %d of %v, fuel %d: %d, %d; want %d", l, f, args, fuel, n, got.steps, steps)
		}
	}
	for fuel := -1; fuel < steps; fuel++ {
		wantCode(t, l, p, f, args, w, fuel, api.Fuel, l)
	}
}

// TestExample is the chapter's, which is the README's too.
func TestExample(t *testing.T) {
	p := parsed(t, "(fun f (a) (ret (add a 1)))")
	l := []api.Routine{routine("f", 1, 3, number(2, 1), two(api.Add, 3, 1, 2), ret(3))}
	wantRun(t, l, p, 0, row(5), api.World{}, api.Outcome{Value: 6}, pcs(0, 0, 2))
	if n := irsem.Steps(l, p, 0, row(5), api.World{}, 3); n != 3 {
		t.Errorf("P14.2: %d", n)
	}
	if n := irsem.Steps(l, p, 0, row(5), api.World{}, 2); n != -1 {
		t.Errorf("P14.2: %d", n)
	}
	p = parsed(t, "(secret k 2) (export f (i) (ret (open (get k i))))")
	wantRun(t, lowered(t, p), p, 0, row(3), world(nil, row(7, 8)), api.Outcome{Value: 8, Opened: row(8), World: world(nil, row(7, 8))},
		shown(pc(0, 0), pc(0, 1), div(3, 2), pcs(0, 2, 6), at(1<<20+8), pcs(0, 7, 8)))
}

// bench is a source whose last function's lines may be any of six registers, its world, and arguments of a call.
const bench = "(secret k 2) (secret l 3) (fun none () (ret 9)) (fun both (a (ptr q 1)) (ret a)) (fun f (a (ptr p 2) b) (ret a))"

func benchWorld() api.World {
	return world(row(30, 31, 32, 33), row(10, 11), row(20, 21, 22))
}

// onBench are routines of bench; both returns the word at q and a.
func onBench(l ...api.Line) []api.Routine {
	return []api.Routine{
		routine("none", 0, 1, number(1, 9), ret(1)),
		routine("both", 2, 3, load(3, 2), two(api.Add, 3, 3, 1), ret(3)),
		routine("f", 3, 6, l...),
	}
}

// wantLines wants a call of f of 5, the shared word 1, and 7, to do what these lines say.
func wantLines(t *testing.T, value uint64, opened []uint64, behind api.World, leaks []api.Leak, l ...api.Line) {
	t.Helper()
	wantRun(t, onBench(l...), parsed(t, bench), 2, row(5, 1, 7), benchWorld(), api.Outcome{Value: value, Opened: opened, World: behind}, leaks)
}

// TestKinds: each kind of line, and what it shows.
func TestKinds(t *testing.T) {
	w := benchWorld()
	wantLines(t, 5, nil, w, pcs(2, 0, 0), ret(1))
	wantLines(t, 7, nil, w, pcs(2, 0, 0), ret(3))
	wantLines(t, 0, nil, w, pcs(2, 0, 0), ret(6))
	wantLines(t, 1<<24+8, nil, w, pcs(2, 0, 0), ret(2)) // a pointer's word is an address
	wantLines(t, 9, nil, w, pcs(2, 0, 1), number(4, 9), ret(4))
	wantLines(t, all, nil, w, pcs(2, 0, 1), number(1, all), ret(1))
	wantLines(t, 0, nil, w, pcs(2, 0, 1), number(1, 0), ret(1))
	wantLines(t, 12, nil, w, pcs(2, 0, 1), two(api.Add, 4, 1, 3), ret(4))
	wantLines(t, 7, nil, w, pcs(2, 0, 1), copied(1, 3), ret(1))
	wantLines(t, 0, nil, w, pcs(2, 0, 1), copied(1, 4), ret(1))
	wantLines(t, 1<<20, nil, w, pcs(2, 0, 1), addr(4, "k"), ret(4))
	wantLines(t, 1<<20+16, nil, w, pcs(2, 0, 1), addr(4, "l"), ret(4))
	wantLines(t, 31, nil, w, shown(pc(2, 0), at(1<<24+8), pc(2, 1)), load(4, 2), ret(4))
	wantLines(t, 20, nil, w, shown(pc(2, 0), pc(2, 1), at(1<<20+16), pc(2, 2)), addr(4, "l"), load(4, 4), ret(4))
	wantLines(t, 5, nil, world(row(30, 7, 32, 33), w.Secrets...), shown(pc(2, 0), at(1<<24+8), pc(2, 1)), store(2, 3), ret(1))
	wantLines(t, 5, nil, world(w.Shared, row(7, 11), w.Secrets[1]), shown(pcs(2, 0, 1), at(1<<20), pc(2, 2)), addr(4, "k"), store(4, 3), ret(1))
	wantLines(t, 1<<24+8, nil, world(row(30, 1<<24+8, 32, 33), w.Secrets...), shown(pc(2, 0), at(1<<24+8), pc(2, 1)), store(2, 2), ret(2))
	wantLines(t, 5, nil, w, pcs(2, 0, 1), label(3), ret(1))
	wantLines(t, 5, nil, w, shown(pc(2, 0), pc(2, 3)), jump(3), number(1, 8), label(3), ret(1))
	wantLines(t, 5, nil, w, shown(pc(2, 0), pc(2, 3)), zero(4, all), number(1, 8), label(all), ret(1))
	wantLines(t, 8, nil, w, pcs(2, 0, 3), zero(1, 3), number(1, 8), label(3), ret(1)) // the label is come to from the line ahead
	wantLines(t, 9, nil, w, shown(pc(2, 0), pcs(0, 0, 1), pc(2, 1)), call(4, "none"), ret(4))
	wantLines(t, 36, nil, w, shown(pc(2, 0), pc(1, 0), at(1<<24+8), pcs(1, 1, 2), pc(2, 1)), call(4, "both", 1, 2), ret(4))
	wantLines(t, 5, row(7), w, pcs(2, 0, 1), open(3), ret(1))
	wantLines(t, 5, row(7, 0, 1<<24+8, 7), w, pcs(2, 0, 4), open(3), open(6), open(2), open(3), ret(1))
}

// TestOneFunction: sources of a single function, without secret arrays and with one, and without shared words.
func TestOneFunction(t *testing.T) {
	p := parsed(t, "(export f () (ret 1))")
	for _, w := range []api.World{{}, world(nil), world([]uint64{}), world(row(1)), world(row(3, 2, 1)), world(count(512))} {
		wantRun(t, []api.Routine{routine("f", 0, 1, ret(1))}, p, 0, nil, w, api.Outcome{World: w}, pcs(0, 0, 0))
		wantRun(t, []api.Routine{routine("f", 0, 1, number(1, 4), open(1), ret(1))}, p, 0, []uint64{}, w, api.Outcome{Value: 4, Opened: row(4), World: w}, pcs(0, 0, 2))
	}
	p = parsed(t, "(secret k 1) (fun f (a) (ret 1))")
	l := []api.Routine{routine("f", 1, 3, addr(2, "k"), load(3, 2), store(2, 1), ret(3))}
	wantRun(t, l, p, 0, row(5), world(row(1), row(8)), api.Outcome{Value: 8, World: world(row(1), row(5))}, shown(pcs(0, 0, 1), at(1<<20), pc(0, 2), at(1<<20), pc(0, 3)))
}

// TestOperations: each of sixteen, of numbers at which they turn; what varies shows both.
func TestOperations(t *testing.T) {
	p := parsed(t, "(fun f (a b) (ret a))")
	for _, c := range []struct {
		op      uint64
		a, b, v uint64
	}{
		{api.Add, 2, 3, 5}, {api.Add, all, 1, 0}, {api.Sub, 5, 3, 2}, {api.Sub, 0, 1, all}, {api.Sll, 3, 2, 12}, {api.Sll, 3, 65, 6}, {api.Slt, 3, 5, 1}, {api.Slt, all, 0, 1}, {api.Slt, 0, all, 0},
		{api.Sltu, 3, 5, 1}, {api.Sltu, all, 0, 0}, {api.Sltu, 0, all, 1}, {api.Xor, 6, 3, 5}, {api.Srl, 12, 2, 3}, {api.Srl, least, 63, 1}, {api.Sra, 12, 2, 3}, {api.Sra, least, 63, all}, {api.Or, 6, 3, 7}, {api.And, 6, 3, 2},
		{api.Mul, 6, 7, 42}, {api.Mul, all, all, 1}, {api.Mulhu, 6, 7, 0}, {api.Mulhu, all, all, all - 1},
		{api.Div, 7, 2, 3}, {api.Div, neg(7), 2, neg(3)}, {api.Div, 7, 0, all}, {api.Div, least, all, least}, {api.Divu, 7, 2, 3}, {api.Divu, all, 2, least - 1}, {api.Divu, 7, 0, all}, {api.Divu, 0, all, 0},
		{api.Rem, 7, 2, 1}, {api.Rem, neg(7), 2, all}, {api.Rem, 7, 0, 7}, {api.Rem, least, all, 0}, {api.Remu, 7, 2, 1}, {api.Remu, all, 10, 5}, {api.Remu, 7, 0, 7}, {api.Remu, 0, 0, 0}, {api.Remu, 0, all, 0},
	} {
		leaks := pcs(0, 0, 1)
		if c.op == api.Div || c.op == api.Divu || c.op == api.Rem || c.op == api.Remu {
			leaks = shown(pc(0, 0), div(c.a, c.b), pc(0, 1))
		}
		l := []api.Routine{routine("f", 2, 3, two(c.op, 3, 1, 2), ret(3))}
		wantRun(t, l, p, 0, row(c.a, c.b), api.World{}, api.Outcome{Value: c.v}, leaks)
		// Into one of its own registers.
		for d := 1; d <= 2; d++ {
			l = []api.Routine{routine("f", 2, 2, two(c.op, d, 1, 2), ret(d))}
			wantRun(t, l, p, 0, row(c.a, c.b), api.World{}, api.Outcome{Value: c.v}, leaks)
		}
	}
	edges := row(0, 1, 2, 3, 31, 32, 63, 64, 65, 1<<32, least-1, least, least+1, all-1, all)
	for op := range uint64(16) {
		l := []api.Routine{routine("f", 2, 3, two(op, 3, 1, 2), ret(3))}
		for _, a := range edges {
			for _, b := range edges {
				leaks := pcs(0, 0, 1)
				if op >= api.Div {
					leaks = shown(pc(0, 0), div(a, b), pc(0, 1))
				}
				v, _ := alu.Two(int(op), a, b)
				o, s, e := irsem.Run(l, p, 0, row(a, b), api.World{}, 2)
				if e != api.OK || o.Value != v || !slices.Equal(s, leaks) {
					t.Errorf("P14.1: %d of %d, %d: %d, %d, %v; want %d, %v", op, a, b, e, o.Value, s, v, leaks)
				}
			}
		}
	}
}

// TestLoweredOperations: each of thirteen that sources have, lowered.
func TestLoweredOperations(t *testing.T) {
	for word, varies := range map[string]int{"add": 0, "sub": 0, "shl": 0, "slt": 0, "sltu": 0, "xor": 0, "shr": 0, "sar": 0, "or": 0, "and": 0, "mul": 0, "divu": 1, "remu": 1} {
		p := parsed(t, "(export f (a b) (ret ("+word+" a b)))")
		op, _ := tree.Op(word)
		for _, c := range [][]uint64{{7, 2}, {2, 7}, {0, 0}, {all, 0}, {0, all}, {all, all}, {least, 63}} {
			leaks := shown(pc(0, 0), pcs(0, 1, 1))
			if varies > 0 {
				leaks = shown(pc(0, 0), div(c[0], c[1]), pc(0, 1))
			}
			v, _ := alu.Two(op, c[0], c[1])
			wantRun(t, lowered(t, p), p, 0, c, api.World{}, api.Outcome{Value: v}, leaks)
		}
	}
}

// TestJumps: ahead and back, to a label with none between, to the next line, and from several places.
func TestJumps(t *testing.T) {
	w := benchWorld()
	// 5 rounds, by which 7 becomes 7 + 5 + 4 + 3 + 2 + 1.
	var leaks []api.Leak
	for range 5 {
		leaks = append(leaks, pcs(2, 2, 6)...)
	}
	leaks = shown(pcs(2, 0, 1), leaks, pc(2, 2), pc(2, 8))
	loop := []api.Line{number(4, 1), label(7), zero(1, 2), two(api.Add, 3, 3, 1), two(api.Sub, 1, 1, 4), number(5, 0), zero(5, 7), label(2), ret(3)}
	wantLines(t, 22, nil, w, leaks, loop...)
	loop[6] = jump(7)
	wantLines(t, 22, nil, w, leaks, loop...)
	wantLines(t, 5, nil, w, shown(pc(2, 0), pc(2, 2)), jump(1), label(1), ret(1))
	wantLines(t, 5, nil, w, shown(pc(2, 0), pc(2, 2)), zero(6, 1), label(1), ret(1))
	wantLines(t, 5, nil, w, pcs(2, 0, 2), zero(3, 1), label(1), ret(1))
	wantLines(t, 5, nil, w, shown(pc(2, 0), pcs(2, 3, 4)), jump(3), label(4), label(3), label(2), ret(1)) // the others behind it are steps
	wantLines(t, 5, nil, w, shown(pc(2, 0), pc(2, 4), pc(2, 2), pc(2, 6)), jump(3), label(4), jump(5), label(3), jump(4), label(5), ret(1))
	// To one label from ahead, and then from the line ahead, which is come to from behind.
	wantLines(t, 7, row(1), w, shown(pc(2, 0), pcs(2, 4, 7), pcs(2, 2, 6), pc(2, 9)),
		zero(4, 1), label(2), open(1), label(1), number(4, 2), two(api.Srl, 1, 1, 4), zero(1, 3), jump(2), label(3), ret(3))
	// Labels are each routine's own.
	p := parsed(t, "(fun g (a) (ret a)) (fun f (a) (ret a))")
	l := []api.Routine{
		routine("g", 1, 2, jump(1), label(2), number(1, 9), label(1), open(1), zero(2, 3), label(3), ret(1)),
		routine("f", 1, 2, zero(2, 2), label(1), number(1, 8), label(3), label(2), call(1, "g", 1), jump(4), label(4), ret(1)),
	}
	wantRun(t, l, p, 1, row(6), api.World{}, api.Outcome{Value: 6, Opened: row(6)}, shown(pc(1, 0), pc(1, 5), pc(0, 0), pcs(0, 4, 5), pc(0, 7), pc(1, 6), pc(1, 8)))
}

// toWord are the lines by which the register 4 becomes a word's address.
func toWord(address uint64) api.Line {
	return number(4, address)
}

// TestWords: each word of memory may be loaded, and stored, which changes no other.
func TestWords(t *testing.T) {
	w := benchWorld()
	words := map[uint64]*uint64{}
	fresh := benchWorld()
	for i, v := range []*uint64{&fresh.Secrets[0][0], &fresh.Secrets[0][1], &fresh.Secrets[1][0], &fresh.Secrets[1][1], &fresh.Secrets[1][2]} {
		words[1<<20+8*uint64(i)] = v
	}
	for i := range fresh.Shared {
		words[1<<24+8*uint64(i)] = &fresh.Shared[i]
	}
	for address, word := range words {
		old := *word
		wantLines(t, old, nil, w, shown(pcs(2, 0, 1), at(address), pc(2, 2)), toWord(address), load(5, 4), ret(5))
		wantLines(t, old, nil, w, shown(pcs(2, 0, 1), at(address), pc(2, 2)), toWord(address), load(4, 4), ret(4))
		*word = 7
		wantLines(t, 5, nil, fresh, shown(pcs(2, 0, 1), at(address), pc(2, 2)), toWord(address), store(4, 3), ret(1))
		wantLines(t, 7, nil, fresh, shown(pcs(2, 0, 1), at(address), pc(2, 2), at(address), pc(2, 3)), toWord(address), store(4, 3), load(1, 4), ret(1))
		*word = address
		wantLines(t, 5, nil, fresh, shown(pcs(2, 0, 1), at(address), pc(2, 2)), toWord(address), store(4, 4), ret(1))
		*word = old
	}
	if len(words) != 9 {
		t.Errorf("the test is wrong: %d", len(words))
	}
}

// TestArraysOneBehindTheOther: the last word of one, and the first of the next, reckoned from either, of 1 and of 64 words, and of 32 arrays.
func TestArraysOneBehindTheOther(t *testing.T) {
	for _, lens := range [][]int{{1}, {64}, {1, 1}, {2, 3}, {64, 64}, {1, 64, 1}, {5, 4, 3, 2, 1}, slices.Repeat([]int{64}, 32), slices.Repeat([]int{1, 2}, 16)} {
		s := ""
		var w api.World
		var flat []uint64
		for i, n := range lens {
			s += fmt.Sprintf("(secret k%d %d)", i, n)
			words := count(n)
			for k := range words {
				words[k] += uint64(i) * 10000
			}
			w.Secrets = append(w.Secrets, words)
			flat = append(flat, words...)
		}
		p := parsed(t, s+"(fun f () (ret 1))")
		from := 0
		for i, n := range lens {
			for _, k := range []int{0, n - 1, n, -1} { // n: the next one's first; -1: the last of the one ahead
				address := 1<<20 + 8*uint64(from+k)
				l := []api.Routine{routine("f", 0, 3, addr(1, fmt.Sprint("k", i)), number(2, 8*uint64(k)), two(api.Add, 1, 1, 2), load(3, 1), ret(3))}
				if from+k < 0 || from+k >= len(flat) {
					wantCode(t, l, p, 0, nil, w, 9, api.Refused, i, " ", k)
					continue
				}
				wantRun(t, l, p, 0, nil, w, api.Outcome{Value: flat[from+k], World: w}, shown(pcs(0, 0, 3), at(address), pc(0, 4)))
			}
			l := []api.Routine{routine("f", 0, 1, addr(1, fmt.Sprint("k", i)), ret(1))}
			wantRun(t, l, p, 0, nil, w, api.Outcome{Value: 1<<20 + 8*uint64(from), World: w}, pcs(0, 0, 1))
			from += n
		}
	}
}

// TestSharedWords: a pointer's first and last word, and those around it, which are there as well.
func TestSharedWords(t *testing.T) {
	for _, shared := range []int{1, 2, 3, 64, 65, 511, 512} {
		for _, n := range []int{1, 2, 64} {
			if n > shared {
				continue
			}
			p := parsed(t, fmt.Sprintf("(export f ((ptr p %d) a) (ret 1))", n))
			for _, first := range []int{0, min(1, shared-n), shared - n} {
				for _, k := range []int{0, n - 1, n, -1, -first, shared - 1 - first, shared - first, -first - 1} {
					w := world(count(shared))
					behind := world(count(shared))
					address := 1<<24 + 8*uint64(first+k)
					l := []api.Routine{routine("f", 2, 3, number(3, 8*uint64(k)), two(api.Add, 1, 1, 3), load(3, 1), store(1, 2), ret(3))}
					args := row(uint64(first), 5)
					if first+k < 0 || first+k >= shared {
						wantCode(t, l, p, 0, args, w, 9, api.Refused, shared, " ", n, " ", first, " ", k)
						continue
					}
					behind.Shared[first+k] = 5
					wantRun(t, l, p, 0, args, w, api.Outcome{Value: 1000 + uint64(first+k), World: behind}, shown(pcs(0, 0, 2), at(address), pc(0, 3), at(address), pc(0, 4)))
				}
			}
		}
	}
}

// TestPointersAmongArguments: only a pointer becomes an address.
func TestPointersAmongArguments(t *testing.T) {
	names := []string{"a", "b", "c", "d", "e", "g"}
	w := world(count(9))
	for n := range 7 {
		for pointers := range 1 << n { // a bit for each parameter that is one
			s := ""
			var args, want []uint64
			var l []api.Line
			for i, name := range names[:n] {
				args = append(args, uint64(8-i))
				if pointers>>i&1 == 1 {
					s += fmt.Sprintf(" (ptr %s %d)", name, 1+i)
					want = append(want, 1<<24+8*uint64(8-i))
				} else {
					s += []string{" (sec " + name + ")", " " + name}[i%2]
					want = append(want, uint64(8-i))
				}
				l = append(l, open(i+1))
			}
			p := parsed(t, "(fun f ("+s+") (ret 1))")
			wantRun(t, []api.Routine{routine("f", n, n+1, append(l, ret(n+1))...)}, p, 0, args, w, api.Outcome{Opened: want, World: w}, pcs(0, 0, uint64(n)))
		}
	}
	// What isn't a pointer may be any word.
	p := parsed(t, "(fun f (a b (sec c) d e g) (ret 1))")
	l := []api.Routine{routine("f", 6, 6, open(1), open(2), open(3), open(4), open(5), ret(6))}
	wantRun(t, l, p, 0, row(0, all, all, least, 513, all-1), w, api.Outcome{Value: all - 1, Opened: row(0, all, all, least, 513), World: w}, pcs(0, 0, 5))
}

// TestRegistersThatNothingSet: they are 0, in each call anew; a routine's registers are no other's.
func TestRegistersThatNothingSet(t *testing.T) {
	p := parsed(t, "(fun g (a) (ret a)) (fun f (a) (ret a))")
	l := []api.Routine{
		routine("g", 1, 4, open(1), open(2), open(3), open(4), number(2, 5), number(4, 6), two(api.Add, 3, 3, 4), ret(3)),
		routine("f", 1, 4, number(2, 8), number(3, 9), call(3, "g", 2), open(2), open(4), call(4, "g", 3), open(1), open(2), open(3), ret(4)),
	}
	wantRun(t, l, p, 1, row(7), api.World{}, api.Outcome{Value: 6, Opened: row(8, 0, 0, 0, 8, 0, 6, 0, 0, 0, 7, 8, 6)}, shown(pcs(1, 0, 2), pcs(0, 0, 7), pcs(1, 3, 5), pcs(0, 0, 7), pcs(1, 6, 9)))
	// A hundred thousand registers.
	l = []api.Routine{routine("g", 1, 100000, copied(99999, 1), copied(1, 100000), ret(99999)), routine("f", 1, 100000, call(100000, "g", 1), open(99999), ret(100000))}
	wantRun(t, l, p, 1, row(7), api.World{}, api.Outcome{Value: 7, Opened: row(0)}, shown(pc(1, 0), pcs(0, 0, 2), pcs(1, 1, 2)))
}

// TestCalls: of words and of pointers, in another order, one twice, and one within another; into a register that is among the arguments.
func TestCalls(t *testing.T) {
	p := parsed(t, "(secret k 2) (fun a ((ptr p 2) i) (ret i)) (fun b (i (ptr p 2) j (ptr q 1)) (ret i)) (export c () (ret 1)) (fun f (i (ptr p 3) (ptr q 2)) (ret i))")
	l := []api.Routine{
		routine("a", 2, 3, load(3, 1), store(1, 2), ret(3)),
		routine("b", 4, 5, call(5, "a", 2, 1), open(5), call(1, "a", 4, 3), ret(1)),
		routine("c", 0, 2, addr(1, "k"), number(2, 77), call(1, "a", 1, 2), ret(1)),
		routine("f", 3, 4, call(4, "c"), open(4), call(1, "b", 4, 3, 1, 2), open(3), call(2, "a", 3, 2), ret(1)),
	}
	// k's first word becomes 77; that at q what it was; that at p 9; that at q p's address.
	wantRun(t, l, p, 3, row(9, 1, 4), world(count(6), row(50, 51)), api.Outcome{
		Value:  1001,
		Opened: row(50, 1004, 1<<24+32),
		World:  world(row(1000, 9, 1002, 1003, 1<<24+8, 1005), row(77, 51)),
	}, shown(
		pc(3, 0), pcs(2, 0, 2), pc(0, 0), at(1<<20), pc(0, 1), at(1<<20), pc(0, 2), pc(2, 3), pcs(3, 1, 2),
		pc(1, 0), pc(0, 0), at(1<<24+32), pc(0, 1), at(1<<24+32), pc(0, 2), pcs(1, 1, 2), pc(0, 0), at(1<<24+8), pc(0, 1), at(1<<24+8), pc(0, 2), pc(1, 3),
		pcs(3, 3, 4), pc(0, 0), at(1<<24+32), pc(0, 1), at(1<<24+32), pc(0, 2), pc(3, 5)))
	p = parsed(t, "(fun g (a b) (ret a)) (fun f (a b) (ret a))")
	g := routine("g", 2, 3, two(api.Sub, 3, 1, 2), copied(1, 3), number(2, 99), ret(3))
	for _, c := range []struct {
		x, y int
		v    uint64
	}{{1, 2, 2}, {2, 1, all - 1}, {1, 1, 0}, {2, 2, 0}, {3, 1, neg(9)}, {1, 3, 9}} {
		for d := 1; d <= 3; d++ {
			want := row(9, 7, 0)
			want[d-1] = c.v
			l := []api.Routine{g, routine("f", 2, 3, call(d, "g", c.x, c.y), open(1), open(2), open(3), ret(d))}
			wantRun(t, l, p, 1, row(9, 7), api.World{}, api.Outcome{Value: c.v, Opened: want}, shown(pc(1, 0), pcs(0, 0, 3), pcs(1, 1, 4)))
		}
	}
	// A routine with six arguments calls one with as many, and none with none.
	p = parsed(t, "(fun n () (ret 1)) (fun g (a b c d e g) (ret a)) (export f (a b c d e g) (ret a))")
	l = []api.Routine{
		routine("n", 0, 1, ret(1)),
		routine("g", 6, 6, open(1), open(2), open(3), open(4), open(5), open(6), call(6, "n"), ret(6)),
		routine("f", 6, 6, call(1, "g", 6, 5, 4, 3, 2, 1), call(2, "g", 1, 3, 3, 4, 5, 6), ret(2)),
	}
	wantRun(t, l, p, 2, row(1, 2, 3, 4, 5, 6), api.World{}, api.Outcome{Opened: row(6, 5, 4, 3, 2, 1, 0, 3, 3, 4, 5, 6)}, shown(pc(2, 0), pcs(1, 0, 6), pc(0, 0), pc(1, 7), pc(2, 1), pcs(1, 0, 6), pc(0, 0), pc(1, 7), pc(2, 2)))
}

// TestDeepCalls: 32 routines, each of which calls the one ahead.
func TestDeepCalls(t *testing.T) {
	s := "(fun f0 (a) (ret a))"
	l := []api.Routine{routine("f0", 1, 1, ret(1))}
	var leaks, back []api.Leak
	for i := range 31 {
		n := fmt.Sprint("f", i+1)
		s += "(fun " + n + " (a) (ret a))"
		l = append(l, routine(n, 1, 3, number(2, 1), two(api.Add, 1, 1, 2), call(3, fmt.Sprint("f", i), 1), two(api.Add, 3, 3, 2), ret(3)))
		leaks, back = shown(pcs(uint64(i+1), 0, 2), leaks), shown(back, pcs(uint64(i+1), 3, 4))
	}
	wantRun(t, l, parsed(t, s), 31, row(5), api.World{}, api.Outcome{Value: 5 + 2*31}, shown(leaks, pc(0, 0), back))
}

// TestEachFunction: any function may be called, the first and the last, exports and others.
func TestEachFunction(t *testing.T) {
	s := ""
	var l []api.Routine
	for i := range 32 {
		s += fmt.Sprintf("(%s f%d () (ret 1))", []string{"fun", "export"}[i/2%2], i)
		l = append(l, routine(fmt.Sprint("f", i), 0, 1, number(1, uint64(100+i)), ret(1)))
	}
	p := parsed(t, s)
	for f := range 32 {
		wantRun(t, l, p, f, nil, api.World{}, api.Outcome{Value: uint64(100 + f)}, pcs(uint64(f), 0, 1))
	}
}
