package sec_test

import (
	"fmt"
	"math/rand"
	"slices"
	"strings"
	"testing"

	"caponier/api"
	"caponier/sec"
	"caponier/tree"
)

// TestSourcesAtRandom holds sources against the tests' own way.
func TestSourcesAtRandom(t *testing.T) {
	codes := map[api.Code]int{}
	chains, results, calls := 0, 0, 0
	for _, slip := range []int{1 << 30, 400, 100, 30} {
		m := maker{rand.New(rand.NewSource(int64(1100 + slip))), slip}
		for range 2000 {
			p := m.prog()
			codes[wantAsSlow(t, p)]++
			for f, x := range p.Funcs {
				if len(sec.Secrets(p, f)) > len(x.Params)+1 {
					chains++
				}
				if sec.Result(p, f) {
					results++
				}
				if slices.ContainsFunc(x.Params, func(a api.Param) bool { return a.Kind == api.Pointer }) && f > 0 && sec.Cost(p, f) > sec.Cost(p, f-1) {
					calls++
				}
			}
		}
	}
	if codes[api.OK] < 2000 || codes[api.Secret] < 400 || codes[api.Size] < 50 || codes[api.Typed] < 500 || codes[api.Undefined] < 200 || codes[api.Twice] < 300 || chains < 100 || results < 500 || calls < 500 {
		t.Errorf("the test is wrong: %v, %d, %d, %d", codes, chains, results, calls)
	}
}

// TestChains sets variables to each other in all orders.
func TestChains(t *testing.T) {
	r := rand.New(rand.NewSource(1102))
	for range 500 {
		n := 2 + r.Intn(30)
		var want []string
		var l []string
		cut := r.Intn(n)
		for i := range n {
			from := fmt.Sprintf("v%02d", i-1)
			switch {
			case i == 0:
				from = "(get k 0)"
			case i == cut: // what is behind isn't secret
				from = []string{"(open " + from + ")", "(call pub (open " + from + "))", "1", "w"}[r.Intn(4)]
			default:
				from = []string{from, "(add 1 " + from + ")", "(sel 1 " + from + " 2)", "(sel (open 1) 2 (xor " + from + " 3))", "(sel " + from + " 1 2)"}[r.Intn(5)]
			}
			if i < cut || cut == 0 {
				want = append(want, fmt.Sprintf("v%02d", i))
			}
			s := fmt.Sprintf("(set v%02d %s)", i, from)
			l = append(l, []string{s, "(if 0 (" + s + ") ())", "(if 1 () (" + s + "))", "(for i 2 " + s + ")"}[r.Intn(4)])
		}
		r.Shuffle(n, func(i, j int) { l[i], l[j] = l[j], l[i] })
		s := "(secret k 1) (fun pub (a) (ret a)) (fun f () " + strings.Join(l, "") + fmt.Sprintf("(ret v%02d))", n-1)
		wantLast(t, s, told{secrets: want, result: cut == 0, cost: sec.Cost(parsed(t, s), 1)})
	}
}

// TestChainsOfCalls hands what is secret from function to function.
func TestChainsOfCalls(t *testing.T) {
	for n := 1; n < 30; n++ {
		for cut := range n + 1 {
			var b strings.Builder
			b.WriteString("(secret k 1) (fun f0 () (ret (get k 0)))")
			for i := 1; i <= n; i++ {
				from := fmt.Sprintf("(call f%d)", i-1)
				if i == cut {
					from = "(open " + from + ")"
				}
				fmt.Fprintf(&b, "(fun f%d () (set x %s) (ret x))", i, from)
			}
			p := parsed(t, b.String())
			for i := 1; i <= n; i++ {
				secret := cut == 0 || i < cut
				if sec.Result(p, i) != secret || (len(sec.Secrets(p, i)) == 1) != secret {
					t.Errorf("P11.2: %d of %d, opened in %d: %v, %v", i, n, cut, sec.Secrets(p, i), sec.Result(p, i))
				}
			}
			p.Funcs[n].Out = true
			want := api.OK
			if cut == 0 {
				want = api.Secret
			}
			if got := sec.Check(p); got != want {
				t.Errorf("P11.1: %d, opened in %d: %d; want %d", n, cut, got, want)
			}
		}
	}
}

// TestOpenedAnywhere: P11.3. Where something secret may not be, it may be opened.
func TestOpenedAnywhere(t *testing.T) {
	for _, place := range []string{
		"(export f () (if %s () ()) (ret 0))", "(export f () (for i 2 (if i ((if 1 () ((if (add %s 1) () ())))) ())) (ret 0))",
		"(export f () (ret (open (get k %s))))", "(export f ((ptr q 1)) (ret (get q %s)))", "(export f ((ptr q 1)) (put q %s 0) (ret 0))", "(export f () (put k (mul %s 2) 0) (ret 0))",
		"(export f () (ret (divu %s 2)))", "(export f () (ret (divu 2 %s)))", "(export f () (ret (remu %s 2)))", "(export f () (ret (remu 2 (sel 1 2 %s))))",
		"(export f () (ret (call pub %s)))", "(export f ((ptr q 3)) (ret (call at q %s)))", "(export f ((ptr q 3)) (put q 0 %s) (ret 0))", "(export f ((ptr q 3)) (put q %s %s) (ret 0))",
		"(export f () (ret %s))", "(export f () (ret (add %s 1)))", "(export f () (set y %s) (if y () ()) (ret y))", "(export f () (for i 1 (set i2 %s)) (ret (divu i2 i2)))",
	} {
		for _, secret := range []string{"(get k 0)", "(get k (open (get k 1)))", "(call id 1)", "(add 1 (get k 0))", "(sel 1 2 (sel (get k 0) 1 2))", "x", "(shl x x)"} {
			for what, code := range map[string]api.Code{"%s": api.Secret, "(open %s)": api.OK, "(call pub (open %s))": api.OK, "(open (open %s))": api.OK, "(call id (open %s))": api.Secret, "(add 1 (sel 1 (open %s) 3))": api.OK, "(open (add %s 1))": api.OK, "(add (open %s) %s)": api.Secret} {
				s := strings.ReplaceAll(place, "%s", strings.ReplaceAll(what, "%s", secret))
				wantCode(t, wrongHead+strings.Replace(s, "(ret ", "(set x (get k 0)) (ret ", 1), code)
			}
		}
	}
	// Whatever is right but for Secret and Size is no more Secret, when all is opened that may not be.
	m := maker{rand.New(rand.NewSource(1103)), 1 << 30}
	before := 0
	for range 2000 {
		p := m.prog()
		if sec.Check(p) == api.Secret {
			before++
		}
		for i := range p.Funcs {
			openStmts(p, p.Funcs[i], p.Funcs[i].Body)
		}
		if got := sec.Check(p); got != api.OK && got != api.Size {
			t.Errorf("P11.3: %s: %d", short(p), got)
		}
		wantAsSlow(t, p)
	}
	if before < 100 {
		t.Errorf("the test is wrong: %d", before)
	}
}

// openStmts opens all in statements that may not be secret.
func openStmts(p api.Prog, f api.Func, l []api.Stmt) {
	for i := range l {
		s := &l[i]
		for k := range s.Args {
			openExpr(p, &s.Args[k])
		}
		switch s.Kind {
		case api.SIf:
			s.Args[0] = opened(s.Args[0])
		case api.SPut:
			s.Args[0], s.Args[1] = opened(s.Args[0]), opened(s.Args[1])
		case api.SRet:
			if f.Out {
				s.Args[0] = opened(s.Args[0])
			}
		}
		openStmts(p, f, s.Then)
		openStmts(p, f, s.Else)
	}
}

func openExpr(p api.Prog, e *api.Expr) {
	for i := range e.Args {
		openExpr(p, &e.Args[i])
	}
	for i := range e.Args {
		switch e.Kind {
		case api.EGet, api.EOp:
			e.Args[i] = opened(e.Args[i])
		case api.ECall:
			if g := slowCalled(p, len(p.Funcs), e.Name); p.Funcs[g].Params[i].Kind == api.PubWord {
				e.Args[i] = opened(e.Args[i])
			}
		}
	}
}

// TestNothingSecret: P11.3. A source without secret arrays and SecWords has nothing secret.
func TestNothingSecret(t *testing.T) {
	m := maker{rand.New(rand.NewSource(1104)), 60}
	codes := map[api.Code]int{}
	for range 6000 {
		p := m.prog()
		p.Secrets = nil
		for _, f := range p.Funcs {
			for i, x := range f.Params {
				if x.Kind == api.SecWord {
					f.Params[i].Kind = api.PubWord
				}
			}
		}
		code := wantAsSlow(t, p)
		if codes[code]++; code == api.Secret {
			t.Errorf("P11.3: %s: Secret", short(p))
		}
		for f := range p.Funcs {
			if l := sec.Secrets(p, f); len(l) != 0 || sec.Result(p, f) {
				t.Errorf("P11.3: %s: %v, %v", short(p), l, sec.Result(p, f))
			}
		}
	}
	if codes[api.OK] < 1000 || codes[api.Undefined] < 100 || codes[api.Typed] < 100 {
		t.Errorf("the test is wrong: %v", codes)
	}
}

// fullText is a source with something of every kind.
const fullText = `(secret k 4) (secret l 1)
(fun id ((sec a)) (ret a))
(fun at ((ptr p 2) i) (put p i (open (get k i))) (ret (get p i)))
(fun mix (a (sec b) (ptr p 2)) (set c (xor a b)) (for i 3 (if i ((set d (add d (get k i)))) ((put k i c) (for j 2 (set c (mul c j)))))) (ret (sel c d (call at p (open b)))))
(export f (a (ptr q 3)) (set x (call mix a (get k a) q)) (if (open x) ((put q 0 (open x))) ((set y (call id x)))) (ret (remu (open y) (get q 1))))
`

// TestFull has something of every kind.
func TestFull(t *testing.T) {
	p := parsed(t, fullText)
	if wantAsSlow(t, p) != api.OK {
		t.Error("the test is wrong")
	}
	wantTold(t, p, 0, told{secrets: []string{"a"}, result: true, cost: 2})
	wantTold(t, p, 1, told{cost: 8})
	wantTold(t, p, 2, told{secrets: []string{"b", "c", "d"}, result: true, cost: 4 + 1 + 3*(1+2+5+3+1+2*(1+4)) + 4 + 12})
	wantTold(t, p, 3, told{secrets: []string{"x", "y"}, cost: 5 + sec.Cost(p, 2) + 1 + 3 + 4 + 5 + 5 + 1})
}

// TestChangedSources changes one thing in a source that has everything: a name, a number, a kind, or a part that is left out, or there twice.
func TestChangedSources(t *testing.T) {
	codes := map[api.Code]int{}
	words := strings.Fields(strings.NewReplacer("(", " ( ", ")", " ) ").Replace(fullText))
	try := func(i int, l ...string) {
		p, e := tree.Parse(strings.Join(slices.Concat(words[:i], l, words[i+1:]), " "))
		if e == api.OK {
			codes[wantAsSlow(t, p)]++
		}
	}
	for i, w := range words {
		for _, other := range []string{"k", "l", "id", "at", "mix", "f", "a", "b", "c", "d", "i", "j", "p", "q", "x", "y", "z", "0", "1", "2", "3", "64", "fun", "export", "divu", "add", "( get k 0 )", "( get p 0 )", "( call id 0 )", "( open x )", "( sel 1 b x )", "( sec a )", "( ptr a 1 )", "( ptr q 2 )", "( ptr q 1 )"} {
			try(i, other)
			try(i, w, other)
		}
		try(i)
		if w == "(" {
			for _, s := range []string{"( set a 1 )", "( set i 1 )", "( set p 1 )", "( set x ( get k 0 ) )", "( set i ( get l 0 ) )", "( ret 1 )", "( for i 2 )", "( for j 64 ( for i 64 ) )", "( put k b b )", "( put p 0 b )", "( if a ( ) ( ) )", "( fun f ( ) ( ret 0 ) )", "( fun g ( ) ( ret ( call g ) ) )"} {
				try(i, s, w)
			}
		}
	}
	if codes[api.OK] < 500 || codes[api.Twice] < 30 || codes[api.Undefined] < 100 || codes[api.Typed] < 500 || codes[api.Secret] < 50 || codes[api.Size] < 5 {
		t.Errorf("the test is wrong: %v", codes)
	}
}

// room is a list with spare room that holds something.
func room[T any](l []T, spare T) []T {
	return append(slices.Clone(l), spare)[:len(l)]
}

// roomy is a tree, its lists with spare room.
func roomy(p api.Prog) api.Prog {
	p.Secrets, p.Funcs = room(p.Secrets, api.Array{Name: "spare"}), room(p.Funcs, api.Func{Name: "spare"})
	for i, f := range p.Funcs {
		p.Funcs[i].Params, p.Funcs[i].Body = room(f.Params, api.Param{Name: "spare"}), roomyStmts(f.Body)
	}
	return p
}

func roomyStmts(l []api.Stmt) []api.Stmt {
	l = room(l, set("spare", num(1)))
	for i, s := range l {
		l[i].Args, l[i].Then, l[i].Else = roomyExprs(s.Args), roomyStmts(s.Then), roomyStmts(s.Else)
	}
	return l
}

func roomyExprs(l []api.Expr) []api.Expr {
	l = room(l, vari("spare"))
	for i, e := range l {
		l[i].Args = roomyExprs(e.Args)
	}
	return l
}

// whole is all that a tree holds, the spare room of its lists too, in one text.
func whole(p api.Prog) string {
	s := fmt.Sprint(p.Secrets[:len(p.Secrets)+1], p.Funcs[:len(p.Funcs)+1])
	for _, f := range p.Funcs {
		s += fmt.Sprint(f.Params[:len(f.Params)+1]) + wholeStmts(f.Body)
	}
	return s
}

func wholeStmts(l []api.Stmt) string {
	s := fmt.Sprint(l[:len(l)+1])
	for _, x := range l {
		s += wholeExprs(x.Args) + wholeStmts(x.Then) + wholeStmts(x.Else)
	}
	return s
}

func wholeExprs(l []api.Expr) string {
	s := fmt.Sprint(l[:len(l)+1])
	for _, e := range l {
		s += wholeExprs(e.Args)
	}
	return s
}

// TestSourcesAreNeitherChangedNorKept: rules 3 and 5 of the document.
func TestSourcesAreNeitherChangedNorKept(t *testing.T) {
	for _, s := range []string{fullText, "(secret k 1) (fun f () (ret (get k (get k 0))))", wrongHead + "(fun f () (ret k))", wrongHead + "(fun f () (ret (call f)))", "(secret k 1) (fun k () (ret 0))", "(fun f () (for i 64 (for j 64)) (ret 0))"} {
		p := roomy(parsed(t, s))
		before := whole(p)
		code := wantAsSlow(t, p)
		if whole(p) != before {
			t.Errorf("rule 3: %s is changed", s)
		}
		for i := range p.Funcs { // written over
			for k := range p.Funcs[i].Body {
				p.Funcs[i].Body[k] = set("k", num(1))
			}
		}
		wantAsSlow(t, p)
		if got := sec.Check(parsed(t, s)); got != code {
			t.Errorf("rule 3: %s is kept: %d; want %d", s, got, code)
		}
	}
}

// TestAnswersHaveMemoryOfTheirOwn: rule 3 of the document.
func TestAnswersHaveMemoryOfTheirOwn(t *testing.T) {
	p := parsed(t, fullText)
	l := sec.Secrets(p, 2)
	for i := range l[:cap(l)] {
		l[:cap(l)][i] = "over"
	}
	wantTold(t, p, 2, told{secrets: []string{"b", "c", "d"}, result: true, cost: sec.Cost(p, 2)})
	one, other := sec.Secrets(p, 2), sec.Secrets(p, 2)
	one[0] = "over"
	if other[0] != "b" {
		t.Error("rule 3: two answers share their memory")
	}
}

// TestCallsHangOnNothingElse asks the same, with other calls between.
func TestCallsHangOnNothingElse(t *testing.T) {
	p := parsed(t, fullText)
	for _, items := range wrongs() {
		for _, x := range items {
			q := parsed(t, wrongHead+named(x, "f"))
			for range 2 {
				sec.Check(q)
				sec.Secrets(q, len(q.Funcs)-1)
				sec.Result(q, len(q.Funcs)-1)
				sec.Cost(q, len(q.Funcs)-1)
				sec.Check(api.Prog{Funcs: []api.Func{{}}})
				if got := sec.Check(p); got != api.OK {
					t.Fatalf("rule 5: behind %s: %d", x, got)
				}
				wantTold(t, p, 2, told{secrets: []string{"b", "c", "d"}, result: true, cost: sec.Cost(p, 2)})
			}
		}
	}
}
