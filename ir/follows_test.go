package ir_test

import (
	"fmt"
	"math/rand"
	"slices"
	"testing"

	"caponier/api"
	"caponier/ir"
)

func newRand(seed int64) *rand.Rand {
	return rand.New(rand.NewSource(seed))
}

// wantAlike wants two rows of routines to be alike, or not, either way round.
func wantAlike(t *testing.T, a, b []api.Routine, alike bool, what ...any) {
	t.Helper()
	if ir.Same(a, b) != alike || ir.Same(b, a) != alike {
		t.Errorf("P13.3: %s: %v", fmt.Sprint(what...), !alike)
	}
}

// TestSame: routines that differ in one field alone, each in turn, aren't alike.
func TestSame(t *testing.T) {
	wantAlike(t, nil, nil, true, "none")
	wantAlike(t, nil, []api.Routine{}, true, "none")
	wantAlike(t, nil, []api.Routine{{}}, false, "none, and one")
	wantAlike(t, []api.Routine{{}}, []api.Routine{{Lines: []api.Line{}}}, true, "one that is nothing")
	wantAlike(t, kinds(), kinds(), true, "each kind of line")
	wantAlike(t, kinds(), kinds()[:3], false, "one is left out")
	wantAlike(t, kinds(), append(kinds(), api.Routine{}), false, "one more")
	wantAlike(t, kinds(), changed(func(l []api.Routine) { l[0], l[1] = l[1], l[0] }), false, "in another order")
	for i, r := range kinds() {
		for what, change := range map[string]func(r *api.Routine){
			"Name":                 func(r *api.Routine) { r.Name += "x" },
			"no Name":              func(r *api.Routine) { r.Name = "" },
			"Params":               func(r *api.Routine) { r.Params++ },
			"Regs":                 func(r *api.Routine) { r.Regs++ },
			"no Lines":             func(r *api.Routine) { r.Lines = nil },
			"a line more":          func(r *api.Routine) { r.Lines = append(r.Lines, ret(1)) },
			"an empty line more":   func(r *api.Routine) { r.Lines = append(r.Lines, api.Line{}) },
			"the first is missing": func(r *api.Routine) { r.Lines = r.Lines[1:] },
		} {
			wantAlike(t, kinds(), changed(func(l []api.Routine) { change(&l[i]) }), false, i, " ", what)
		}
		for k := range r.Lines {
			for what, change := range map[string]func(x *api.Line){
				"Op":                        func(x *api.Line) { x.Op++ },
				"D":                         func(x *api.Line) { x.D++ },
				"A":                         func(x *api.Line) { x.A++ },
				"B":                         func(x *api.Line) { x.B++ },
				"-D":                        func(x *api.Line) { x.D = -1 },
				"Num":                       func(x *api.Line) { x.Num++ },
				"the highest bit":           func(x *api.Line) { x.Num ^= 1 << 63 },
				"Name":                      func(x *api.Line) { x.Name += "x" },
				"an argument more":          func(x *api.Line) { x.Args = append(x.Args, 1) },
				"an argument more that's 0": func(x *api.Line) { x.Args = append(x.Args, 0) },
			} {
				wantAlike(t, kinds(), changed(func(l []api.Routine) { change(&l[i].Lines[k]) }), false, i, ", ", k, " ", what)
			}
			wantAlike(t, kinds(), changed(func(l []api.Routine) { l[i].Lines[k].Args = append([]int{}, l[i].Lines[k].Args...) }), true, i, ", ", k)
		}
	}
	args := func(l ...int) []api.Routine {
		return []api.Routine{routine("f", 0, 9, call(1, "g", l...), ret(1))}
	}
	for _, l := range [][]int{nil, {1}, {2}, {1, 1}, {1, 2}, {2, 1}, {1, 2, 3}, {3, 2, 1}, {1, 3, 2}, {1, 2, 3, 3}} {
		for _, k := range [][]int{nil, {1}, {2}, {1, 1}, {1, 2}, {2, 1}, {1, 2, 3}, {3, 2, 1}, {1, 3, 2}, {1, 2, 3, 3}} {
			wantAlike(t, args(l...), args(k...), slices.Equal(l, k), l, " and ", k)
		}
	}
}

// fullText is a source with something of every kind.
const fullText = `(secret k 2) (secret l 1)
(fun id ((sec a)) (ret a))
(fun at ((ptr p 2) i) (put p i (open (get k i))) (ret (get p i)))
(fun mix (a (sec b) (ptr p 2)) (set c (xor a b)) (for i 3 (if i ((set d (add d (get k i)))) ((put k i c) (for j 2 (set c (mul c j)))))) (ret (sel c d (call at p (open b)))))
(export f (a (ptr q 3)) (set x (call mix a (get k a) q)) (if (open x) ((put q 0 (open x))) ((put l 0 (call id x)))) (ret (remu (open x) (get q 1))))
`

// room is a list with spare room that holds something.
func room[T any](l []T, spare T) []T {
	return append(slices.Clone(l), spare)[:len(l)]
}

// roomy is a tree, its lists with spare room.
func roomy(p api.Prog) api.Prog {
	p.Secrets, p.Funcs = room(p.Secrets, api.Array{Name: "spare"}), room(p.Funcs, api.Func{Name: "spare"})
	for i, f := range p.Funcs {
		p.Funcs[i].Params, p.Funcs[i].Body = room(f.Params, api.Param{Name: "spare"}), roomyStmts(f.Body)
	}
	return p
}

func roomyStmts(l []api.Stmt) []api.Stmt {
	l = room(l, api.Stmt{Name: "spare"})
	for i, s := range l {
		l[i].Args, l[i].Then, l[i].Else = roomyExprs(s.Args), roomyStmts(s.Then), roomyStmts(s.Else)
	}
	return l
}

func roomyExprs(l []api.Expr) []api.Expr {
	l = room(l, api.Expr{Name: "spare"})
	for i, e := range l {
		l[i].Args = roomyExprs(e.Args)
	}
	return l
}

// whole is all that a tree holds, the spare room of its lists too, in one text.
func whole(p api.Prog) string {
	s := fmt.Sprint(p.Secrets[:len(p.Secrets)+1], p.Funcs[:len(p.Funcs)+1])
	for _, f := range p.Funcs {
		s += fmt.Sprint(f.Params[:len(f.Params)+1]) + wholeStmts(f.Body)
	}
	return s
}

func wholeStmts(l []api.Stmt) string {
	s := fmt.Sprint(l[:len(l)+1])
	for _, x := range l {
		s += wholeExprs(x.Args) + wholeStmts(x.Then) + wholeStmts(x.Else)
	}
	return s
}

func wholeExprs(l []api.Expr) string {
	s := fmt.Sprint(l[:len(l)+1])
	for _, e := range l {
		s += wholeExprs(e.Args)
	}
	return s
}

// roomyRoutines are routines, their lists with spare room.
func roomyRoutines(l []api.Routine) []api.Routine {
	l = room(l, api.Routine{Name: "spare"})
	for i, r := range l {
		l[i].Lines = room(r.Lines, api.Line{Name: "spare"})
		for k, x := range r.Lines {
			l[i].Lines[k].Args = room(x.Args, 77)
		}
	}
	return l
}

// wholeRoutines is all that routines hold, the spare room of their lists too, in one text.
func wholeRoutines(l []api.Routine) string {
	s := fmt.Sprint(l[:len(l)+1])
	for _, r := range l {
		s += fmt.Sprint(r.Lines[:len(r.Lines)+1])
		for _, x := range r.Lines {
			s += fmt.Sprint(x.Args[:len(x.Args)+1])
		}
	}
	return s
}

// TestNothingIsChangedNorKept: rule 3 of the document.
func TestNothingIsChangedNorKept(t *testing.T) {
	p := roomy(parsed(t, fullText))
	before := whole(p)
	l, e := ir.Lower(p)
	want := text(slowLower(parsed(t, fullText)))
	if e != api.OK || text(l) != want {
		t.Fatalf("P13.1: %d, %s; want %s", e, text(l), want)
	}
	a, b := roomyRoutines(l), roomyRoutines(l)
	lines := wholeRoutines(a)
	if !ir.May(a, p) || !ir.Same(a, b) {
		t.Error("P13.3: it may not be, or isn't alike")
	}
	a[2].Lines[3].D = -1
	lines2 := wholeRoutines(a)
	if ir.May(a, p) || ir.Same(a, b) {
		t.Error("P13.2: it may be, or is alike")
	}
	if whole(p) != before || wholeRoutines(b) != lines || wholeRoutines(a) != lines2 {
		t.Error("rule 3: something is changed that was handed in")
	}
	// All that was handed in is written over.
	for i := range p.Funcs {
		clear(p.Funcs[i].Params)
		clear(p.Funcs[i].Body)
	}
	clear(p.Secrets)
	clear(p.Funcs)
	for i := range a {
		clear(a[i].Lines)
	}
	if text(l) != want {
		t.Errorf("rule 3: what was handed in is kept: %s; want %s", text(l), want)
	}
	if again, e := ir.Lower(parsed(t, fullText)); e != api.OK || text(again) != want {
		t.Errorf("rule 3: what was handed in is kept: %d, %s; want %s", e, text(again), want)
	}
	// And one that isn't right.
	p = roomy(parsed(t, fullText+"(fun f () (ret 0))"))
	before = whole(p)
	wantCode(t, p, api.Twice)
	if whole(p) != before {
		t.Error("rule 3: something is changed that was handed in and isn't right")
	}
}

// TestAnswersHaveMemoryOfTheirOwn: rule 3 of the document, and that no two lists of an answer share theirs.
func TestAnswersHaveMemoryOfTheirOwn(t *testing.T) {
	s := fullText + "(export last (a b (ptr p 3)) (ret (call at p (call at p (call at p a)))))"
	p := parsed(t, s)
	want := slowLower(p)
	for i, r := range want {
		for k := -1; k < len(r.Lines); k++ { // its lines, or the arguments of one
			l, _ := ir.Lower(p)
			other, _ := ir.Lower(p)
			mine := slowLower(p)
			if k < 0 {
				row := l[i].Lines[:cap(l[i].Lines)]
				for n := range row {
					row[n] = ret(99)
				}
				l[i].Lines, mine[i].Lines = nil, nil
			} else {
				row := l[i].Lines[k].Args
				row = row[:cap(row)]
				for n := range row {
					row[n] = 99
				}
				l[i].Lines[k].Args, mine[i].Lines[k].Args = nil, nil
			}
			if text(l) != text(mine) {
				t.Errorf("rule 3: list %d, %d lies over another", i, k)
			}
			if text(other) != text(want) {
				t.Errorf("rule 3: an answer's list %d, %d isn't its own", i, k)
			}
		}
	}
	if got, e := ir.Lower(parsed(t, s)); e != api.OK || text(got) != text(want) {
		t.Errorf("rule 3: %d", e)
	}
}

// TestCallsHangOnNothingElse asks the same, with other calls between.
func TestCallsHangOnNothingElse(t *testing.T) {
	p := parsed(t, fullText)
	m := maker{newRand(1340)}
	want := slowLower(p)
	wrong := slowLower(p)
	wrong[3].Lines[2].Num = 77
	for range 100 {
		q := m.prog()
		l, _ := ir.Lower(q)
		ir.May(l, q)
		ir.May(l, p)
		ir.May(want, q)
		ir.Same(l, want)
		ir.Lower(api.Prog{Funcs: []api.Func{{}}})
		got, e := ir.Lower(p)
		if e != api.OK || text(got) != text(want) || !ir.May(got, p) || !ir.Same(got, want) || ir.Same(got, wrong) {
			t.Fatalf("rule 5: behind %s: %d", short(q), e)
		}
	}
}

// TestWhatIsLoweredMayBeNoOthers: routines of one source aren't another's, if these have other functions.
func TestWhatIsLoweredMayBeNoOthers(t *testing.T) {
	m := maker{newRand(1350)}
	others := 0
	for range 500 {
		p, q := m.prog(), m.prog()
		l, e := ir.Lower(p)
		if e != api.OK {
			continue
		}
		if got, want := ir.May(l, q), slowMay(l, q); got != want {
			t.Errorf("P13.2: %s: those of %s: %v", short(q), short(p), got)
		} else if !got {
			others++
		}
	}
	if others < 200 {
		t.Errorf("the test is wrong: %d", others)
	}
}
