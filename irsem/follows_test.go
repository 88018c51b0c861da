package irsem_test

import (
	"fmt"
	"math/rand"
	"slices"
	"strings"
	"testing"

	"caponier/api"
	"caponier/ir"
	"caponier/irsem"
	"caponier/sec"
	"caponier/sem"
)

func newRand(seed int64) *rand.Rand {
	return rand.New(rand.NewSource(seed))
}

// TestRoutinesAtRandom holds what routines do that nobody lowered against the tests' own way.
func TestRoutinesAtRandom(t *testing.T) {
	m := maker{newRand(1401)}
	codes := map[api.Code]int{}
	kinds := map[int]int{}
	for range 3000 {
		p := m.prog()
		if sec.Check(p) != api.OK {
			continue
		}
		l := m.routines(p)
		if !ir.May(l, p) {
			t.Fatalf("the test is wrong: %s: %v", short(p), l)
		}
		f := len(p.Funcs) - 1 - m.Intn(len(p.Funcs))/2
		w := m.world(p)
		args, ok := m.args(p.Funcs[f], w)
		if !ok {
			wantCode(t, l, p, f, args, w, 10, api.Arg)
			continue
		}
		got := wantAsSlow(t, l, p, f, args, w, 300)
		codes[got.code]++
		if got.code == api.OK {
			wantAsSlow(t, l, p, f, args, w, got.steps)
			wantCode(t, l, p, f, args, w, got.steps-1, api.Fuel)
		}
		wantAsSlow(t, l, p, f, args, w, m.Intn(20))
		for _, x := range got.leaks {
			if x.Kind == api.LeakPc {
				kinds[l[x.A].Lines[x.B].Op]++
			}
		}
		if t.Failed() {
			t.Fatalf("%v", l)
		}
	}
	if codes[api.OK] < 900 || codes[api.Fuel] < 50 || codes[api.Refused] < 200 {
		t.Errorf("the test is wrong: %v", codes)
	}
	for op := range 12 {
		if kinds[op] < 100 {
			t.Errorf("the test is wrong: %v", kinds)
		}
	}
}

// wantDone wants a source's routines to do what it does, in no more steps than it may take.
func wantDone(t *testing.T, p api.Prog, f int, args []uint64, w api.World) []api.Leak {
	t.Helper()
	l := lowered(t, p)
	want, e := sem.Run(p, f, args, w)
	if e != api.OK {
		t.Fatalf("the test is wrong: %s: %d", short(p), e)
	}
	most := 40 * sec.Cost(p, f)
	o, leaks, e := irsem.Run(l, p, f, args, w, most)
	if e != api.OK || !same(o, want) {
		t.Errorf("P14.3: %s: %d of %v, %v: %d, %v; want %v", short(p), f, args, w, e, o, want)
	}
	if n := irsem.Steps(l, p, f, args, w, 1<<20); n < 1 || n > most {
		t.Errorf("P14.3: %s: %d of %v: %d steps; at most %d", short(p), f, args, n, most)
	}
	return leaks
}

// TestSourcesAtRandom: a source's routines do what it does.
func TestSourcesAtRandom(t *testing.T) {
	m := maker{newRand(1402)}
	runs, opened, dear := 0, 0, 0
	for range 1200 {
		p := m.prog()
		if sec.Check(p) != api.OK {
			continue
		}
		for f := range p.Funcs {
			w := m.world(p)
			args, ok := m.args(p.Funcs[f], w)
			if !ok {
				continue
			}
			leaks := wantDone(t, p, f, args, w)
			runs++
			o, _ := sem.Run(p, f, args, w)
			opened += min(len(o.Opened), 1)
			if len(leaks) > 1000 {
				dear++
			} else {
				wantAsSlow(t, lowered(t, p), p, f, args, w, 1<<20)
			}
		}
		if t.Failed() {
			t.FailNow()
		}
	}
	if runs < 1200 || opened < 500 || dear < 40 {
		t.Errorf("the test is wrong: %d, %d, %d", runs, opened, dear)
	}
}

// TestSteps: sources whose lines are many for what they cost, each as dear as may be, or nearly.
func TestSteps(t *testing.T) {
	head := "(secret k 64) (fun one ((ptr p 64)) (ret (get p 0))) (fun f (a (ptr p 64)) "
	tried := 0
	for _, s := range []string{
		"(ret a)", "(ret x)", "(ret 1)", "(ret (sel a a a))", "(ret (get k a))", "(ret (get p a))", "(ret (open a))", "(ret (call one p))", "(for i 64) (ret a)", "(for i 64 (for j 30)) (ret a)",
		strings.Repeat("(for i 1)", 1500) + "(ret a)", "(for i 1" + strings.Repeat("(for j 1)", 1000) + ") (ret a)", strings.Repeat("(put p a a)", 1000) + "(ret a)", strings.Repeat("(put k a a)", 1000) + "(ret a)",
		strings.Repeat("(if a () ())", 1200) + "(ret a)", strings.Repeat("(set a (sel a a a))", 700) + "(ret a)", strings.Repeat("(set a (call one p))", 300) + "(ret a)",
		"(for i 60 (put k i (sel (get k i) (get p i) (get k a))) (set s (sel (get k a) a i)) (set x (call one p)) (if (open s) () ()) (for j 5 (set y x))) (ret s)",
		"(set a (add b (add c (add d (add e (add g (add h i))))))) (ret a)",
	} {
		p := parsed(t, head+s+")")
		if code := sec.Check(p); code != api.OK {
			t.Errorf("the test is wrong: %s: %d", short(p), code)
			continue
		}
		tried++
		for _, a := range row(0, 1, 63, 64, all) {
			wantDone(t, p, 1, row(a, 3), world(count(70), count(64)))
		}
	}
	if tried != 19 {
		t.Errorf("the test is wrong: %d", tried)
	}
}

// wantUnseen wants two runs of one call that open the same to show the same, if the function is Out, and tells whether they opened the same.
func wantUnseen(t *testing.T, p api.Prog, f int, args []uint64, a, b api.World) bool {
	t.Helper()
	l := lowered(t, p)
	x, shows, e := irsem.Run(l, p, f, args, a, 1<<20)
	y, shows2, e2 := irsem.Run(l, p, f, args, b, 1<<20)
	if e != api.OK || e2 != api.OK {
		t.Fatalf("P14.1: %s: %d, %d", short(p), e, e2)
	}
	if !slices.Equal(x.Opened, y.Opened) {
		return false
	}
	if p.Funcs[f].Out && !slices.Equal(shows, shows2) {
		t.Errorf("P14.3: %s: %d of %v, %v, %v: shows %s; and %s", short(p), f, args, a, b, few(shows), few(shows2))
	}
	return true
}

// TestSecretsAreNotShown: exports' runs in worlds that differ in secrets alone, of sources at random.
func TestSecretsAreNotShown(t *testing.T) {
	m := maker{newRand(1403)}
	alike, unlike, opened := 0, 0, 0
	for range 3000 {
		p := m.prog()
		if sec.Check(p) != api.OK || len(p.Secrets) == 0 {
			continue
		}
		for f, x := range p.Funcs {
			w := m.world(p)
			args, ok := m.args(x, w)
			if !ok || !x.Out {
				continue
			}
			for range 3 {
				other := api.World{Secrets: m.world(p).Secrets, Shared: w.Shared}
				if m.Intn(2) == 0 { // one word alone
					i := m.Intn(len(w.Secrets))
					for k := range w.Secrets {
						other.Secrets[k] = slices.Clone(w.Secrets[k])
					}
					other.Secrets[i][m.Intn(len(other.Secrets[i]))] += 1 + m.number()
				}
				if !wantUnseen(t, p, f, args, w, other) {
					unlike++
					continue
				}
				alike++
				o, _ := sem.Run(p, f, args, w)
				opened += min(len(o.Opened), 1)
			}
		}
	}
	if alike < 1500 || unlike < 400 || opened < 500 {
		t.Errorf("the test is wrong: %d, %d, %d", alike, unlike, opened)
	}
}

// TestSecretsOfEachKind: sources that do with secrets whatever they may, none of which opens one.
func TestSecretsOfEachKind(t *testing.T) {
	head := "(secret k 4) (secret l 1) (fun id ((sec a)) (ret a)) (fun mix ((sec a) (sec b) (ptr p 2)) (put k 0 (xor a b)) (put p 0 (add 1 (get p 0))) (ret (sel a b (get k 1)))) (fun one ((sec a)) (put l 0 a) (ret 1)) "
	m := maker{newRand(1404)}
	for _, body := range []string{
		"(ret a)", "(set s (get k 0)) (ret a)", "(put k a (get l 0)) (ret (get q 0))", "(put k a (add (get k 1) (get q a))) (put q 1 a) (ret (get q a))",
		"(set s (sel (get k 0) (get k 1) (get k 2))) (put k 3 (mul s s)) (ret (call one s))", "(set s (call mix (get k 2) (get l 0) q)) (put q a (get q 0)) (ret (add a (get q 1)))",
		"(for i 4 (put k i (slt (get k i) (get l 0))) (put q i (add i (call one (get k i))))) (ret (get q 1))", "(if a ((put k 0 1) (put q 0 5)) ((put l 0 (get k 1)))) (ret (get q 0))",
		"(set s (shl 1 (get k 0))) (set s (call id (call id s))) (set y (call one s)) (ret y)", "(set s (shr (sar (or s (get k 0)) (get k 1)) (sltu s 3))) (put k a s) (ret (divu a (get q 0)))",
		"(set x (open (mul 0 (get k 0)))) (put q 0 x) (if x () ((set a 5))) (ret (remu a x))", "(put k 0 5) (set x (open (get k 0))) (put q x x) (ret (divu 100 x))", "(for i 3 (put l 0 i) (set x (add x (open (get l 0))))) (ret (remu x (get q 0)))",
	} {
		p := parsed(t, head+"(export f (a (ptr q 2)) "+body+")")
		for range 40 {
			shared := m.words(3)
			if !wantUnseen(t, p, 3, row(m.number(), uint64(m.Intn(2))), world(shared, m.words(4), m.words(1)), world(shared, m.words(4), m.words(1))) {
				t.Errorf("the test is wrong: %s opens what is secret", body)
			}
		}
	}
	// Where what is opened differs, what is shown may; lines that nobody lowered show what they like.
	p := parsed(t, "(secret k 1) (export f () (if (open (get k 0)) () ()) (ret 1))")
	l := lowered(t, p)
	_, a, _ := irsem.Run(l, p, 0, nil, world(nil, row(0)), 100)
	_, b, _ := irsem.Run(l, p, 0, nil, world(nil, row(1)), 100)
	if len(a) == 0 || slices.Equal(a, b) || wantUnseen(t, p, 0, nil, world(nil, row(0)), world(nil, row(1))) {
		t.Errorf("P14.1: %v, %v", a, b)
	}
	l = []api.Routine{routine("f", 0, 2, addr(1, "k"), load(1, 1), two(api.Remu, 2, 2, 1), ret(2))}
	for v := range uint64(5) {
		wantRun(t, l, p, 0, nil, world(nil, row(v)), api.Outcome{World: world(nil, row(v))}, shown(pcs(0, 0, 1), at(1<<20), pc(0, 2), div(0, v), pc(0, 3)))
	}
}

// fullText is a source with something of every kind.
const fullText = `(secret k 2) (secret l 1)
(fun id ((sec a)) (ret a))
(fun at ((ptr p 2) i) (put p i (open (get k i))) (ret (get p i)))
(fun mix (a (sec b) (ptr p 2)) (set c (xor a b)) (for i 3 (if i ((set d (add d (get k i)))) ((put k i c) (for j 2 (set c (mul c j)))))) (ret (sel c d (call at p (open b)))))
(export f (a (ptr q 3)) (set x (call mix a (get k a) q)) (if (open x) ((put q 0 (open x))) ((put l 0 (call id x)))) (ret (remu (open x) (get q 1))))
`

// fullWorld is one of fullText, its lists with spare room.
func fullWorld() api.World {
	return api.World{Secrets: room([][]uint64{room(row(10, 20), 77), room(row(30), 77)}, row(77)), Shared: room(row(1, 2, 3, 4, 5), 77)}
}

// room is a list with spare room that holds something.
func room[T any](l []T, spare T) []T {
	return append(slices.Clone(l), spare)[:len(l)]
}

// roomy is a tree, its lists with spare room. Statements are looked at by no layer but those that are called.
func roomy(p api.Prog) api.Prog {
	p.Secrets, p.Funcs = room(p.Secrets, api.Array{Name: "spare"}), room(p.Funcs, api.Func{Name: "spare"})
	for i, f := range p.Funcs {
		p.Funcs[i].Params, p.Funcs[i].Body = room(f.Params, api.Param{Name: "spare"}), room(f.Body, api.Stmt{Name: "spare"})
	}
	return p
}

// roomyRoutines are routines, their lists with spare room.
func roomyRoutines(l []api.Routine) []api.Routine {
	l = room(l, api.Routine{Name: "spare"})
	for i, r := range l {
		l[i].Lines = room(r.Lines, api.Line{Name: "spare"})
		for k, x := range r.Lines {
			l[i].Lines[k].Args = room(x.Args, 77)
		}
	}
	return l
}

// whole is all that is handed in to a call, the spare room of its lists too.
func whole(l []api.Routine, p api.Prog, args []uint64, w api.World) string {
	var b strings.Builder
	fmt.Fprint(&b, l[:len(l)+1], p.Secrets[:len(p.Secrets)+1], p.Funcs[:len(p.Funcs)+1], args[:len(args)+1], w.Shared[:len(w.Shared)+1], w.Secrets[:len(w.Secrets)+1])
	for _, r := range l {
		fmt.Fprint(&b, r.Lines[:len(r.Lines)+1])
		for _, x := range r.Lines {
			fmt.Fprint(&b, x.Args[:len(x.Args)+1])
		}
	}
	for _, f := range p.Funcs {
		fmt.Fprint(&b, f.Params[:len(f.Params)+1], f.Body[:len(f.Body)+1])
	}
	for _, words := range w.Secrets {
		fmt.Fprint(&b, words[:len(words)+1])
	}
	return b.String()
}

// TestNothingIsChangedNorKept: rule 3 of the document.
func TestNothingIsChangedNorKept(t *testing.T) {
	p, w, args := roomy(parsed(t, fullText)), fullWorld(), room(row(1, 2), 77)
	l := roomyRoutines(lowered(t, p))
	before := whole(l, p, args, w)
	o, leaks, e := irsem.Run(l, p, 3, args, w, 1000)
	want := slowRun(lowered(t, p), parsed(t, fullText), 3, row(1, 2), fullWorld(), 1000)
	if e != api.OK || !same(o, want.outcome) || !slices.Equal(leaks, want.leaks) || len(o.Opened) < 3 || sameWorld(o.World, w) {
		t.Fatalf("P14.1: %d, %v, %v; want %v", e, o, few(leaks), want)
	}
	irsem.Steps(l, p, 3, args, w, 1000)
	for fuel := range want.steps { // those that don't come to their end
		wantCode(t, l, p, 3, args, w, fuel, api.Fuel)
	}
	wantCode(t, l, p, 3, room(row(1, 3), 77), w, 1000, api.Arg)
	if whole(l, p, args, w) != before {
		t.Error("rule 3: something is changed that was handed in")
	}
	// All that was handed in is written over.
	for i := range l {
		clear(l[i].Lines)
	}
	clear(l)
	clear(p.Secrets)
	clear(p.Funcs)
	for _, words := range w.Secrets {
		clear(words)
	}
	clear(w.Shared)
	clear(w.Secrets)
	clear(args)
	if !same(o, want.outcome) || !slices.Equal(leaks, want.leaks) {
		t.Errorf("rule 3: what was handed in is kept: %v; want %v", o, want.outcome)
	}
}

// TestAnswersHaveMemoryOfTheirOwn: rule 3 of the document, and that no two lists of an answer share theirs.
func TestAnswersHaveMemoryOfTheirOwn(t *testing.T) {
	for _, s := range []string{fullText, "(secret k 2) (secret l 1) (fun id () (ret 1)) (fun at () (ret 1)) (fun mix () (ret 1)) (export f (a (ptr q 3)) (ret a))"} {
		p, w, args := parsed(t, s), fullWorld(), row(1, 2)
		l := lowered(t, p)
		want := slowRun(l, p, 3, args, w, 1000)
		over := func(l []uint64) {
			l = l[:cap(l)]
			for i := range l {
				l[i] = 99
			}
		}
		lists := func(o api.Outcome) [][]uint64 {
			return [][]uint64{o.Opened, o.World.Shared, o.World.Secrets[0], o.World.Secrets[1]}
		}
		for i := range 4 {
			got, leaks, _ := irsem.Run(l, p, 3, args, w, 1000)
			other, others, _ := irsem.Run(l, p, 3, args, w, 1000)
			over(lists(got)[i])
			for k, y := range lists(want.outcome) {
				if k != i && !slices.Equal(lists(got)[k], y) {
					t.Errorf("rule 3: list %d lies over list %d", i, k)
				}
			}
			clear(leaks)
			got.World.Secrets[i%2] = nil
			if !same(other, want.outcome) || !slices.Equal(others, want.leaks) || !sameWorld(w, fullWorld()) || !slices.Equal(args, row(1, 2)) {
				t.Errorf("rule 3: an answer's list %d isn't its own", i)
			}
		}
	}
}

// TestListsThatLieOverOneAnother: a world's lists, and arguments, may share their memory; each is a list by itself all the same.
func TestListsThatLieOverOneAnother(t *testing.T) {
	p := parsed(t, "(secret k 2) (secret l 2) (export f (a (ptr p 2)) (put k 0 7) (put l 1 8) (put p 0 9) (put p 1 (open (get k 1))) (ret (open (add (get k 1) (mul 100 (get l 0))))))")
	words := row(1, 0, 5)
	for _, w := range []api.World{world(words, words[:2], words[:2]), world(words, words[1:], words[:2]), world(words[:2], words[1:], words[1:])} {
		wantDone(t, p, 0, words[:2], w)
		got := wantAsSlow(t, lowered(t, p), p, 0, words[:2], w, 1000)
		if got.code != api.OK || !slices.Equal(words, row(1, 0, 5)) {
			t.Errorf("rule 3: %d, %v", got.code, words)
		}
	}
}

// TestCallsHangOnNothingElse asks the same, with other calls between.
func TestCallsHangOnNothingElse(t *testing.T) {
	p := parsed(t, fullText)
	l := lowered(t, p)
	m := maker{newRand(1405)}
	want := slowRun(l, p, 3, row(1, 2), fullWorld(), 1000)
	for range 100 {
		q := m.prog()
		if sec.Check(q) == api.OK {
			other := m.routines(q)
			w := m.world(q)
			for f := range q.Funcs {
				args, _ := m.args(q.Funcs[f], w)
				irsem.Run(other, q, f, args, w, m.Intn(100))
				irsem.Steps(other, q, f, args, w, m.Intn(100))
				irsem.Run(other, q, f+1, args, w, 100)
				irsem.Run(l, q, f, args, w, 100)
			}
		}
		wantAsSlow(t, l, p, 3, row(1, 2), fullWorld(), want.steps)
		wantCode(t, l, p, 3, row(1, 2), fullWorld(), want.steps-1, api.Fuel)
	}
}

// TestEachCallByItself: a call's world behind it may be the next one's.
func TestEachCallByItself(t *testing.T) {
	p := parsed(t, "(secret k 3) (fun g (i (ptr p 2)) (put k i (add (get k (add i 1)) (get p i))) (put p i (open (get k i))) (ret (get k (add i 2)))) (fun f ((ptr q 2)) (for i 20 (set x (add (mul x 3) (call g i q)))) (ret x))")
	l := lowered(t, p)
	w := world(row(4, 5, 6), row(1, 2, 3))
	want := wantAsSlow(t, l, p, 1, row(1), w, 1<<20).outcome
	var x uint64
	var opened []uint64
	for i := range uint64(20) {
		got := wantAsSlow(t, l, p, 0, row(i, 1), w, 1000).outcome
		x, w = 3*x+got.Value, got.World
		opened = append(opened, got.Opened...)
	}
	if x != want.Value || !slices.Equal(opened, want.Opened) || !sameWorld(w, want.World) {
		t.Errorf("P14.1: %d, %v, %v; want %v", x, opened, w, want)
	}
}
