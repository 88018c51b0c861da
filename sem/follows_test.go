package sem_test

import (
	"fmt"
	"math/rand"
	"slices"
	"testing"

	"caponier/api"
	"caponier/sec"
	"caponier/sem"
)

func newRand(seed int64) *rand.Rand {
	return rand.New(rand.NewSource(seed))
}

// TestCallsAtRandom holds calls against the tests' own way.
func TestCallsAtRandom(t *testing.T) {
	m := maker{newRand(1210)}
	runs, dear, opened, put, shared := 0, 0, 0, 0, 0
	for range 3000 {
		p := m.prog()
		code := sec.Check(p)
		if code == api.Size {
			dear++
		} else if code != api.OK {
			t.Fatalf("the test is wrong: %s: %d", short(p), code)
		}
		for f := range p.Funcs {
			w := m.world(p)
			args, ok := m.args(p.Funcs[f], w)
			if code != api.OK || !ok {
				wantArg(t, p, f, args, w)
				continue
			}
			got := wantAsSlow(t, p, f, args, w)
			runs++
			opened += min(len(got.Opened), 1)
			if !slices.Equal(w.Shared, got.World.Shared) {
				shared++
			}
			if !sameWorld(api.World{Secrets: w.Secrets}, api.World{Secrets: got.World.Secrets}) {
				put++
			}
		}
	}
	if runs < 4000 || dear < 20 || opened < 2000 || put < 500 || shared < 500 {
		t.Errorf("the test is wrong: %d, %d, %d, %d, %d", runs, dear, opened, put, shared)
	}
}

// wantAlike wants two outcomes that opened the same to return the same, if the function is Out, and to leave the same shared.
func wantAlike(t *testing.T, p api.Prog, f int, args []uint64, a, b api.World) (api.Outcome, api.Outcome, bool) {
	t.Helper()
	x, e := sem.Run(p, f, args, a)
	y, e2 := sem.Run(p, f, args, b)
	if e != api.OK || e2 != api.OK {
		t.Fatalf("P12.1: %s: %d, %d", short(p), e, e2)
	}
	if !slices.Equal(x.Opened, y.Opened) {
		return x, y, false
	}
	if p.Funcs[f].Out && x.Value != y.Value || !slices.Equal(x.World.Shared, y.World.Shared) {
		t.Errorf("P12.2: %s: %d of %v, %v, %v: %v, %v", short(p), f, args, a, b, x, y)
	}
	return x, y, true
}

// TestSecretsStaySecret: P12.2, of sources at random.
func TestSecretsStaySecret(t *testing.T) {
	m := maker{newRand(1220)}
	alike, outs, opened, unlike, differ := 0, 0, 0, 0, 0
	for range 4000 {
		p := m.prog()
		if sec.Check(p) != api.OK || len(p.Secrets) == 0 {
			continue
		}
		for f := range p.Funcs {
			w := m.world(p)
			args, ok := m.args(p.Funcs[f], w)
			if !ok {
				continue
			}
			for i := range w.Secrets { // one word, an array, or all
				other := copied(w)
				switch m.Intn(3) {
				case 0:
					other.Secrets[i][m.Intn(len(other.Secrets[i]))] += 1 + m.number()
				case 1:
					other.Secrets[i] = m.words(len(other.Secrets[i]))
				case 2:
					other.Secrets = m.world(p).Secrets
				}
				x, y, equal := wantAlike(t, p, f, args, w, other)
				if !equal {
					unlike++
					continue
				}
				alike++
				if p.Funcs[f].Out {
					outs++
				}
				opened += min(len(x.Opened), 1)
				if !p.Funcs[f].Out && x.Value != y.Value {
					differ++
				}
			}
		}
	}
	if alike < 3000 || outs < 1000 || opened < 1000 || unlike < 500 || differ < 100 {
		t.Errorf("the test is wrong: %d, %d, %d, %d, %d", alike, outs, opened, unlike, differ)
	}
}

// TestSecretsOfEachKind: P12.2, of sources that do with secrets whatever they may.
func TestSecretsOfEachKind(t *testing.T) {
	head := "(secret k 4) (secret l 1) (fun id ((sec a)) (ret a)) (fun mix ((sec a) (sec b) (ptr p 2)) (put k 0 (xor a b)) (put p 0 (add 1 (get p 0))) (ret (sel a b (get k 1)))) (fun one ((sec a)) (put l 0 a) (ret 1)) "
	m := maker{newRand(1230)}
	for _, body := range []string{
		"(ret a)", "(set s (get k 0)) (ret a)", "(put k a (get l 0)) (ret (get q 0))", "(put k a (add (get k 1) (get q a))) (put q 1 a) (ret (get q a))",
		"(set s (sel (get k 0) (get k 1) (get k 2))) (put k 3 (mul s s)) (ret (call one s))", "(set s (call mix (get k 2) (get l 0) q)) (put q a (get q 0)) (ret (add a (get q 1)))",
		"(for i 4 (put k i (slt (get k i) (get l 0))) (put q i (add i (call one (get k i))))) (ret (get q 1))", "(if a ((put k 0 1) (put q 0 5)) ((put l 0 (get k 1)))) (ret (get q 0))",
		"(set s (shl 1 (get k 0))) (set s (call id (call id s))) (set y (call one s)) (ret y)", "(set s (get k 0)) (set s 0) (put k 0 (and s 0)) (ret (get q 0))",
		"(set x (open (get q 0))) (put k 0 (open x)) (ret x)", "(set x (open (mul 0 (get k 0)))) (put q 0 x) (ret x)", "(set x (open (and 1 (sub (get k 0) (get k 0))))) (if x ((put q 0 9)) ((put q 0 8))) (ret (get q 0))",
		"(put k 0 5) (set x (open (get k 0))) (put q x x) (ret (divu 100 x))", "(for i 3 (put l 0 i) (set x (add x (open (get l 0))))) (ret (remu x (get q 0)))",
		"(set x (call mix (get k 0) a q)) (put k 2 a) (set y (open (get k 2))) (if y ((put q y 1)) ((put q 1 y))) (ret y)",
	} {
		p := parsed(t, head+"(export f (a (ptr q 2)) "+body+")")
		f := len(p.Funcs) - 1
		for range 40 {
			w, other := world(m.words(3), m.words(4), m.words(1)), world(nil, m.words(4), m.words(1))
			other.Shared = w.Shared
			args := row(m.number(), uint64(m.Intn(2)))
			wantAsSlow(t, p, f, args, w)
			if _, _, equal := wantAlike(t, p, f, args, w, other); !equal {
				t.Errorf("the test is wrong: %s opens what is secret", body)
			}
		}
	}
	// Where what is opened differs, all may differ; where it is the same, nothing does.
	p := parsed(t, head+"(export f (a (ptr q 2)) (set x (open (and 1 (get k 0)))) (put q x (add x 5)) (if x ((set y 3)) ((set y 4))) (put k 1 (get l 0)) (ret y))")
	alike := 0
	for a := range uint64(8) {
		for b := range uint64(8) {
			x, y, equal := wantAlike(t, p, 3, row(0, 0), world(row(0, 0), row(a, 0, 0, 0), row(1)), world(row(0, 0), row(b, 1, 2, 3), row(2)))
			if equal != (a%2 == b%2) || !equal && (x.Value == y.Value || slices.Equal(x.World.Shared, y.World.Shared)) {
				t.Errorf("P12.1: %d, %d: %v, %v", a, b, x, y)
			}
			if equal {
				alike++
			}
		}
	}
	if alike != 32 {
		t.Errorf("the test is wrong: %d", alike)
	}
}

// room is a list with spare room that holds something.
func room[T any](l []T, spare T) []T {
	return append(slices.Clone(l), spare)[:len(l)]
}

// roomy is a tree, its lists with spare room.
func roomy(p api.Prog) api.Prog {
	p.Secrets, p.Funcs = room(p.Secrets, api.Array{Name: "spare"}), room(p.Funcs, api.Func{Name: "spare"})
	for i, f := range p.Funcs {
		p.Funcs[i].Params, p.Funcs[i].Body = room(f.Params, api.Param{Name: "spare"}), roomyStmts(f.Body)
	}
	return p
}

func roomyStmts(l []api.Stmt) []api.Stmt {
	l = room(l, api.Stmt{Name: "spare"})
	for i, s := range l {
		l[i].Args, l[i].Then, l[i].Else = roomyExprs(s.Args), roomyStmts(s.Then), roomyStmts(s.Else)
	}
	return l
}

func roomyExprs(l []api.Expr) []api.Expr {
	l = room(l, api.Expr{Name: "spare"})
	for i, e := range l {
		l[i].Args = roomyExprs(e.Args)
	}
	return l
}

// whole is all that a tree holds, the spare room of its lists too, in one text.
func whole(p api.Prog) string {
	s := fmt.Sprint(p.Secrets[:len(p.Secrets)+1], p.Funcs[:len(p.Funcs)+1])
	for _, f := range p.Funcs {
		s += fmt.Sprint(f.Params[:len(f.Params)+1]) + wholeStmts(f.Body)
	}
	return s
}

func wholeStmts(l []api.Stmt) string {
	s := fmt.Sprint(l[:len(l)+1])
	for _, x := range l {
		s += wholeExprs(x.Args) + wholeStmts(x.Then) + wholeStmts(x.Else)
	}
	return s
}

func wholeExprs(l []api.Expr) string {
	s := fmt.Sprint(l[:len(l)+1])
	for _, e := range l {
		s += wholeExprs(e.Args)
	}
	return s
}

// fullText is a source with something of every kind.
const fullText = `(secret k 2) (secret l 1)
(fun id ((sec a)) (ret a))
(fun at ((ptr p 2) i) (put p i (open (get k i))) (ret (get p i)))
(fun mix (a (sec b) (ptr p 2)) (set c (xor a b)) (for i 3 (if i ((set d (add d (get k i)))) ((put k i c) (for j 2 (set c (mul c j)))))) (ret (sel c d (call at p (open b)))))
(export f (a (ptr q 3)) (set x (call mix a (get k a) q)) (if (open x) ((put q 0 (open x))) ((put l 0 (call id x)))) (ret (remu (open x) (get q 1))))
`

// fullWorld is one of fullText, its lists with spare room.
func fullWorld() api.World {
	return api.World{Secrets: room([][]uint64{room(row(10, 20), 77), room(row(30), 77)}, row(77)), Shared: room(row(1, 2, 3, 4, 5), 77)}
}

// wholeWorld is all that a world holds, the spare room of its lists too.
func wholeWorld(w api.World) string {
	s := fmt.Sprint(w.Shared[:len(w.Shared)+1], w.Secrets[:len(w.Secrets)+1])
	for _, l := range w.Secrets {
		s += fmt.Sprint(l[:len(l)+1])
	}
	return s
}

// TestNothingIsChangedNorKept: rule 3 of the document.
func TestNothingIsChangedNorKept(t *testing.T) {
	p, w, args := roomy(parsed(t, fullText)), fullWorld(), room(row(1, 2), 77)
	text, before := whole(p), wholeWorld(w)
	got, e := sem.Run(p, 3, args, w)
	want := slowRun(parsed(t, fullText), 3, row(1, 2), fullWorld())
	if e != api.OK || !same(got, want) || len(want.Opened) < 3 || sameWorld(want.World, w) {
		t.Fatalf("P12.1: %d, %v; want %v", e, got, want)
	}
	if whole(p) != text || wholeWorld(w) != before || !slices.Equal(args[:3], row(1, 2, 77)) {
		t.Error("rule 3: something is changed that was handed in")
	}
	// All that was handed in is written over.
	for i := range p.Funcs {
		clear(p.Funcs[i].Params)
		clear(p.Funcs[i].Body)
	}
	clear(p.Secrets)
	for _, l := range w.Secrets {
		clear(l)
	}
	clear(w.Shared)
	clear(w.Secrets)
	clear(args)
	if !same(got, want) {
		t.Errorf("rule 3: what was handed in is kept: %v; want %v", got, want)
	}
	// And one that may not be.
	p, w, args = roomy(parsed(t, fullText)), fullWorld(), room(row(1, 3), 77)
	wantArg(t, p, 3, args, w)
	if whole(p) != text || wholeWorld(w) != before || !slices.Equal(args[:3], row(1, 3, 77)) {
		t.Error("rule 3: something is changed that was handed in to a call that may not be")
	}
}

// TestAnswersHaveMemoryOfTheirOwn: rule 3 of the document, and that no two lists of an answer share theirs.
func TestAnswersHaveMemoryOfTheirOwn(t *testing.T) {
	p, w, args := parsed(t, fullText), fullWorld(), row(1, 2)
	want := slowRun(p, 3, args, w)
	over := func(l []uint64) {
		l = l[:cap(l)]
		for i := range l {
			l[i] = 99
		}
	}
	for i := range 4 {
		got, _ := sem.Run(p, 3, args, w)
		other, _ := sem.Run(p, 3, args, w)
		l := [][]uint64{got.Opened, got.World.Shared, got.World.Secrets[0], got.World.Secrets[1]}
		over(l[i])
		for k, y := range [][]uint64{want.Opened, want.World.Shared, want.World.Secrets[0], want.World.Secrets[1]} {
			if k != i && !slices.Equal(l[k], y) {
				t.Errorf("rule 3: list %d lies over list %d: %v; want %v", i, k, l[k], y)
			}
		}
		if !same(other, want) || !sameWorld(w, fullWorld()) || !slices.Equal(args, row(1, 2)) {
			t.Errorf("rule 3: an answer's list %d isn't its own", i)
		}
	}
	// Of a call that puts nothing, and of one that opens nothing.
	p = parsed(t, "(secret k 2) (export f (a) (ret a))")
	w = world(row(1, 2), row(3, 4))
	got, _ := sem.Run(p, 0, row(7), w)
	over(got.World.Shared)
	over(got.World.Secrets[0])
	got.World.Secrets[0] = nil
	if !sameWorld(w, world(row(1, 2), row(3, 4))) {
		t.Errorf("rule 3: an answer's world isn't its own: %v", w)
	}
}

// TestListsThatLieOverOneAnother: a world's lists, and arguments, may share their memory; each is a list by itself all the same.
func TestListsThatLieOverOneAnother(t *testing.T) {
	p := parsed(t, "(secret k 2) (secret l 2) (export f (a (ptr p 2)) (put k 0 7) (put l 1 8) (put p 0 9) (put p 1 (open (get k 1))) (ret (open (add (get k 1) (mul 100 (get l 0))))))")
	words := row(1, 0, 5)
	for _, w := range []api.World{world(words, words[:2], words[:2]), world(words, words[1:], words[:2]), world(words[:2], words[1:], words[1:])} {
		behind := copied(w)
		behind.Secrets[0][0], behind.Secrets[1][1], behind.Shared[0], behind.Shared[1] = 7, 8, 9, w.Secrets[0][1]
		value := w.Secrets[0][1] + 100*w.Secrets[1][0]
		got := wantAsSlow(t, p, 0, words[:2], w)
		if want := (api.Outcome{Value: value, Opened: row(w.Secrets[0][1], value), World: behind}); !same(got, want) || !slices.Equal(words, row(1, 0, 5)) {
			t.Errorf("P12.1: %v; want %v", got, want)
		}
	}
}

// TestCallsHangOnNothingElse asks the same, with other calls between.
func TestCallsHangOnNothingElse(t *testing.T) {
	p := parsed(t, fullText)
	m := maker{newRand(1240)}
	want := slowRun(p, 3, row(1, 2), fullWorld())
	for range 50 {
		q := m.prog()
		w := m.world(q)
		for f := range q.Funcs {
			args, _ := m.args(q.Funcs[f], w)
			sem.Run(q, f, args, w)
			sem.May(q, f, args, w)
			sem.Run(q, f+1, args, w)
		}
		if got, e := sem.Run(p, 3, row(1, 2), fullWorld()); e != api.OK || !same(got, want) {
			t.Fatalf("rule 5: behind %s: %d, %v; want %v", short(q), e, got, want)
		}
	}
}

// TestEachStepByItself: a call's world behind it may be the next one's, and so many calls come to what one loop of them does.
func TestEachStepByItself(t *testing.T) {
	p := parsed(t, "(secret k 3) (fun g (i (ptr p 2)) (put k i (add (get k (add i 1)) (get p i))) (put p i (open (get k i))) (ret (get k (add i 2)))) (fun f ((ptr q 2)) (for i 20 (set x (add (mul x 3) (call g i q)))) (ret x))")
	w := world(row(1, 2, 3), row(4, 5, 6))
	want := wantAsSlow(t, p, 1, row(1), w)
	var x uint64
	var opened []uint64
	for i := range uint64(20) {
		got := wantAsSlow(t, p, 0, row(i, 1), w)
		x, w = 3*x+got.Value, got.World
		opened = append(opened, got.Opened...)
	}
	if x != want.Value || !slices.Equal(opened, want.Opened) || !sameWorld(w, want.World) {
		t.Errorf("P12.1: %d, %v, %v; want %v", x, opened, w, want)
	}
}
