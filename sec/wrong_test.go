package sec_test

import (
	"fmt"
	"math"
	"slices"
	"strings"
	"testing"

	"caponier/api"
	"caponier/sec"
	"caponier/tree"
)

// The parts of trees, in few characters.
func num(n uint64) api.Expr     { return api.Expr{Kind: api.ENum, Num: n} }
func vari(name string) api.Expr { return api.Expr{Kind: api.EVar, Name: name} }
func get(name string, e api.Expr) api.Expr {
	return api.Expr{Kind: api.EGet, Name: name, Args: []api.Expr{e}}
}
func call(name string, l ...api.Expr) api.Expr { return api.Expr{Kind: api.ECall, Name: name, Args: l} }
func opened(e api.Expr) api.Expr               { return api.Expr{Kind: api.EOpen, Args: []api.Expr{e}} }
func set(name string, e api.Expr) api.Stmt {
	return api.Stmt{Kind: api.SSet, Name: name, Args: []api.Expr{e}}
}
func ret(e api.Expr) api.Stmt { return api.Stmt{Kind: api.SRet, Args: []api.Expr{e}} }
func loop(x string, n int, l ...api.Stmt) api.Stmt {
	return api.Stmt{Kind: api.SFor, Name: x, Num: n, Then: l}
}
func cond(e api.Expr, then, other []api.Stmt) api.Stmt {
	return api.Stmt{Kind: api.SIf, Args: []api.Expr{e}, Then: then, Else: other}
}

// body is a source of a secret array, k, and one function, f, of these statements.
func body(l ...api.Stmt) api.Prog {
	return api.Prog{Secrets: []api.Array{{Name: "k", Len: 1}}, Funcs: []api.Func{{Name: "f", Body: l}}}
}

// wantNothing wants a source that isn't right to have a code, and nothing to be told of its functions.
func wantNothing(t *testing.T, what string, p api.Prog, code api.Code) {
	t.Helper()
	if got := sec.Check(p); got != code {
		t.Errorf("P11.1: %s: %d; want %d", what, got, code)
	}
	for f := -1; f <= len(p.Funcs); f++ {
		if l, secret, cost := sec.Secrets(p, f), sec.Result(p, f), sec.Cost(p, f); len(l) != 0 || secret || cost != 0 {
			t.Errorf("P11.2: %s: %d: %v, %v, %d; want nothing", what, f, l, secret, cost)
		}
	}
}

// TestTreesOfNoSource: nothing is right that can't be printed.
func TestTreesOfNoSource(t *testing.T) {
	deep := func(n int) api.Expr {
		e := num(1)
		for range n {
			e = opened(e)
		}
		return e
	}
	round := []api.Stmt{loop("i", 2), ret(num(1))}
	round[0].Then = round[:1]
	good := ret(num(0))
	for what, p := range map[string]api.Prog{
		"a function of nothing":          {Funcs: []api.Func{{}}},
		"a function without a name":      {Funcs: []api.Func{{Body: []api.Stmt{good}}}},
		"a name that is none":            {Funcs: []api.Func{{Name: "F", Body: []api.Stmt{good}}}},
		"an array of nothing":            {Secrets: []api.Array{{}}},
		"an array without words":         {Secrets: []api.Array{{Name: "k"}}},
		"an array of too many":           {Secrets: []api.Array{{Name: "k", Len: 65}}},
		"an array of fewer than none":    {Secrets: []api.Array{{Name: "k", Len: math.MinInt}}},
		"33 arrays":                      {Secrets: slices.Repeat([]api.Array{{Name: "k", Len: 1}}, 33)},
		"33 functions":                   {Funcs: slices.Repeat([]api.Func{{Name: "f", Body: []api.Stmt{good}}}, 33)},
		"seven parameters":               {Funcs: []api.Func{{Name: "f", Params: slices.Repeat([]api.Param{{Name: "a"}}, 7), Body: []api.Stmt{good}}}},
		"a parameter of no kind":         {Funcs: []api.Func{{Name: "f", Params: []api.Param{{Name: "a", Kind: 3}}, Body: []api.Stmt{good}}}},
		"a pointer at nothing":           {Funcs: []api.Func{{Name: "f", Params: []api.Param{{Name: "a", Kind: api.Pointer}}, Body: []api.Stmt{good}}}},
		"a word that points":             {Funcs: []api.Func{{Name: "f", Params: []api.Param{{Name: "a", Len: 1}}, Body: []api.Stmt{good}}}},
		"a statement of nothing":         body(api.Stmt{}, good),
		"a statement of no kind":         body(api.Stmt{Kind: 5}, good),
		"a set without an expression":    body(api.Stmt{Kind: api.SSet, Name: "x"}, good),
		"a put of one expression":        body(api.Stmt{Kind: api.SPut, Name: "k", Args: []api.Expr{num(1)}}, good),
		"an if without one":              body(api.Stmt{Kind: api.SIf}, good),
		"a return of none":               body(api.Stmt{Kind: api.SRet}),
		"a return of two":                body(api.Stmt{Kind: api.SRet, Args: []api.Expr{num(1), num(2)}}),
		"a loop of no times":             body(loop("i", 0), good),
		"a loop of too many times":       body(loop("i", 65), good),
		"a loop of fewer than none":      body(loop("i", math.MinInt), good),
		"a loop of an expression":        body(api.Stmt{Kind: api.SFor, Name: "i", Num: 1, Args: []api.Expr{num(1)}}, good),
		"a loop with others":             body(api.Stmt{Kind: api.SFor, Name: "i", Num: 1, Else: []api.Stmt{set("x", num(1))}}, good),
		"a set with statements":          body(api.Stmt{Kind: api.SSet, Name: "x", Args: []api.Expr{num(1)}, Then: []api.Stmt{set("x", num(1))}}, good),
		"an expression of no kind":       body(ret(api.Expr{Kind: 7})),
		"an expression of no kind below": body(ret(api.Expr{Kind: -1})),
		"a variable without a name":      body(ret(vari(""))),
		"a get of no index":              body(ret(api.Expr{Kind: api.EGet, Name: "k"})),
		"no operation":                   body(ret(api.Expr{Kind: api.EOp, Num: api.Mulhu, Args: []api.Expr{num(1), num(2)}})),
		"an operation of one":            body(ret(api.Expr{Kind: api.EOp, Num: api.Divu, Args: []api.Expr{num(1)}})),
		"a choice of two":                body(ret(api.Expr{Kind: api.ESel, Args: []api.Expr{num(1), num(2)}})),
		"a call of seven":                body(ret(call("g", slices.Repeat([]api.Expr{num(1)}, 7)...))),
		"an open of two":                 body(ret(api.Expr{Kind: api.EOpen, Args: []api.Expr{num(1), num(2)}})),
		"a number with a name":           body(ret(api.Expr{Name: "x"})),
		"a number with arguments":        body(ret(api.Expr{Args: []api.Expr{num(1)}})),
		"25 parentheses":                 body(ret(deep(23))),
		"100000 parentheses":             body(ret(deep(100000))),
		"a loop within itself":           body(round...),
	} {
		wantNothing(t, what, p, api.Arg)
		if code, _ := slowSec(p); code != api.Arg {
			t.Errorf("the test is wrong: %s: %d", what, code)
		}
		// It is told ahead of all else, wherever that is.
		for _, s := range []string{"(fun a () (ret 0)) (fun a () (ret 0))", "(fun a () (ret (call b)))", "(fun a () (set x 1))", "(export a ((ptr p 1) (sec b)) (ret (divu 1 b)))"} {
			q := parsed(t, s)
			q.Secrets = slices.Concat(p.Secrets, q.Secrets)
			q.Funcs = slices.Concat(q.Funcs, p.Funcs)
			wantNothing(t, what+" behind "+s, q, api.Arg)
			slices.Reverse(q.Funcs)
			wantNothing(t, what+" ahead of "+s, q, api.Arg)
		}
	}
	if got := sec.Check(body(ret(deep(22)))); got != api.OK {
		t.Errorf("P11.1: 24 parentheses: %d", got)
	}
}

// TestLongSources: what is longer, printed, than a source may be, is right all the same.
func TestLongSources(t *testing.T) {
	long := strings.Repeat("x", 24)
	p := body(slices.Repeat([]api.Stmt{set(long, vari(long))}, 600)...)
	p.Funcs[0].Body = append(p.Funcs[0].Body, ret(get("k", num(0))))
	if _, e := tree.Print(p); e != api.Size {
		t.Fatalf("the test is wrong: %d", e)
	}
	if wantAsSlow(t, p) != api.OK {
		t.Error("the test is wrong")
	}
	wantTold(t, p, 0, told{result: true, cost: 1203})
	p.Funcs[0].Out = true
	if wantAsSlow(t, p) != api.Secret {
		t.Error("the test is wrong")
	}
	p.Funcs[0].Body = p.Funcs[0].Body[:600]
	wantNothing(t, "no return", p, api.Typed)
}

// wrongs are, by their codes, items that make a source wrong behind a secret array, k, and functions, id, pub and at. A name that must be one function's alone is F.
func wrongs() map[api.Code][]string {
	return map[api.Code][]string{
		api.Twice: {
			// Secret arrays and functions.
			"(fun F () (ret 0)) (fun F () (ret 0))", "(fun F () (ret 0)) (export F (a) (ret a))", "(export F () (ret 0)) (export F () (ret 0))", "(export k () (ret 0))", "(fun k () (ret 0))", "(fun id () (ret 0))", "(export at () (ret 0))",
			"(fun F () (ret 0)) (fun Fx () (ret 0)) (fun F () (ret 0))",
			// Parameters.
			"(fun F (a a) (ret 0))", "(fun F (a b c d e a) (ret 0))", "(fun F (a b c d e e) (ret 0))", "(export F (a (ptr a 1)) (ret 0))", "(fun F ((sec a) a) (ret 0))", "(fun F ((sec a) (sec a)) (ret 0))", "(fun F ((ptr a 1) b (ptr a 1)) (ret 0))", "(fun F ((ptr a 2) (sec a)) (ret 0))",
			"(fun F (k) (ret 0))", "(fun F ((sec k)) (ret 0))", "(fun F ((ptr k 4)) (ret 0))", "(export F (a b c d e k) (ret 0))",
		},
		api.Undefined: {
			// What is got of, and put to.
			"(fun F () (ret (get x 0)))", "(fun F (a) (ret (get a 0)))", "(fun F ((sec a)) (ret (get a 0)))", "(export F () (set x 1) (ret (get x 0)))", "(fun F () (ret (get F 0)))", "(fun F () (ret (get id 0)))", "(fun F () (ret (get p 0)))", "(fun F ((ptr q 1)) (ret (open (add 1 (get q (get p 0))))))",
			"(fun F () (put x 0 0) (ret 0))", "(fun F (a) (put a 0 0) (ret 0))", "(export F () (put id 0 0) (ret 0))", "(fun F () (for i 2 (put i 0 0)) (ret 0))", "(fun F () (put p 0 0) (ret 0))", "(fun F () (if 1 () ((put x 0 0))) (ret 0))",
			// What is called: functions behind, itself, exports, none.
			"(fun F () (ret (call none)))", "(fun F () (ret (call F)))", "(fun F (a) (ret (call F a)))", "(fun F () (ret (call Fx))) (fun Fx () (ret 0))", "(export Fx () (ret 0)) (fun F () (ret (call Fx)))", "(export Fx () (ret 0)) (export F () (ret (call Fx)))", "(fun F () (ret (call k)))", "(fun F (a) (ret (call a)))", "(fun F () (ret (call x 1 2)))", "(fun F ((ptr p 1)) (ret (call p)))",
			"(export F () (ret (call F)))", "(fun F () (if 1 ((set x (call id (call none)))) ()) (ret 0))", "(fun F () (for i 1 (put k 0 (open (call none)))) (ret 0))",
		},
		api.Typed: {
			// An array's name as a variable.
			"(fun F () (ret k))", "(fun F ((ptr q 1)) (ret q))", "(fun F () (set x k) (ret 0))", "(fun F () (put k 0 k) (ret 0))", "(fun F () (put k k 0) (ret 0))", "(fun F () (if k () ()) (ret 0))", "(export F ((ptr q 1)) (if (open q) () ()) (ret 0))", "(fun F () (ret (get k k)))", "(fun F ((ptr q 1)) (ret (add q 8)))", "(fun F () (ret (add 1 k)))", "(fun F () (ret (sel 1 2 k)))", "(fun F () (ret (open k)))", "(fun F () (for i 1 (set x (sel k 1 2))) (ret 0))",
			// What is handed in for words, and for pointers.
			"(fun F ((ptr q 1)) (ret (call id q)))", "(fun F ((ptr q 1)) (ret (call pub q)))", "(fun F () (ret (call id k)))", "(fun F () (ret (call pub k)))", "(fun F ((ptr q 4)) (ret (call at q q)))",
			"(fun F () (ret (call at k 0)))", "(fun F () (ret (call at (get k 0) 0)))", "(fun F () (ret (call at 1 0)))", "(fun F (a) (ret (call at a 0)))", "(fun F () (ret (call at x 0)))", "(fun F ((ptr q 4)) (ret (call at (get q 0) 0)))", "(fun F ((ptr q 4)) (ret (call at (open q) 0)))", "(fun F ((ptr q 4)) (ret (call at (add q 0) 0)))", "(fun F ((ptr q 4)) (ret (call at (sel 1 q q) 0)))", "(fun F ((ptr q 4)) (ret (call at (call id 1) 0)))", "(fun F ((ptr q 4)) (ret (call at p 0)))", "(fun F () (ret (call at p 0)))", "(fun F () (ret (call at at 0)))",
			"(fun F ((ptr q 2)) (ret (call at q 0)))", "(export F ((ptr q 1)) (ret (call at q 0)))", "(fun F ((ptr q 4) (ptr r 2)) (ret (add (call at q 0) (call at r 0))))", "(fun Fx ((ptr q 64)) (ret 0)) (fun F ((ptr q 63)) (ret (call Fx q)))",
			// As many arguments as parameters.
			"(fun F () (ret (call id)))", "(fun F () (ret (call id 1 2)))", "(fun F ((ptr q 4)) (ret (call at q)))", "(fun F ((ptr q 4)) (ret (call at q 1 2)))", "(fun F ((ptr q 4)) (ret (call at)))", "(fun Fx () (ret 0)) (fun F () (ret (call Fx 0)))", "(fun Fx (a b c d e g) (ret 0)) (fun F () (ret (call Fx 1 2 3 4 5)))", "(fun F ((ptr q 4)) (ret (call pub 1 q)))",
			// An array's name set, or counted.
			"(fun F () (set k 1) (ret 0))", "(fun F ((ptr q 1)) (set q 1) (ret 0))", "(fun F ((ptr q 1)) (set q q) (ret 0))", "(fun F () (for k 1) (ret 0))", "(export F ((ptr q 1)) (for q 1) (ret 0))", "(fun F () (for i 1 (if i () ((set k 1)))) (ret 0))", "(fun F ((ptr q 1)) (for i 1 (for q 1)) (ret 0))",
			// A loop's variable set, or counting, within.
			"(fun F () (for i 2 (set i 1)) (ret 0))", "(fun F () (for i 2 (for i 2)) (ret 0))", "(fun F () (for i 2 (set i i)) (ret 0))", "(fun F () (for i 1 (if i ((set i 1)) ())) (ret 0))", "(fun F () (for i 1 (if i () ((for i 1)))) (ret 0))", "(fun F () (for i 1 (for j 1 (set i 1))) (ret 0))", "(fun F () (for i 1 (for j 1 (for i 1))) (ret 0))", "(fun F () (for i 1 (for j 1 (set j 1))) (ret 0))", "(fun F (a) (for a 2 (set a 1)) (ret 0))", "(fun F () (for i 1) (for i 1 (set i 1)) (ret 0))", "(fun F () (if 1 () ((for i 1 (set x 1) (set y 1) (for j 1 (set z 1) (set i 1))))) (ret 0))", "(fun F ((sec a)) (for a 2 (for b 2 (for c 2 (set b 1)))) (ret 0))",
			// Returns.
			"(fun F ())", "(export F ())", "(fun F () (set x 1))", "(fun F () (put k 0 0))", "(fun F () (if 1 ((ret 1)) ((ret 2))))", "(fun F () (for i 1 (ret 1)))", "(fun F () (ret 1) (set x 1))", "(fun F () (ret 1) (ret 1))", "(export F () (if 1 ((ret 1)) ()) (ret 1))", "(fun F () (if 1 () ((ret 1))) (ret 1))", "(fun F () (for i 1 (ret 1)) (ret 1))", "(fun F () (for i 1 (if 1 () ((set x 1) (ret 1) (set x 2)))) (ret 1))", "(fun F () (set x 1) (ret 1) (set y 1) (ret 1))", "(fun F () (for i 1 (for j 1 (for l 1 (ret 1)))) (ret 1))",
			// Secret words of exports.
			"(export F ((sec a)) (ret 0))", "(export F (a b c d e (sec g)) (ret 0))", "(export F ((ptr a 1) (sec b) c) (ret 0))", "(export F ((sec a)) (ret (open a)))",
		},
		api.Secret: {
			// Conditions.
			"(fun F () (if (get k 0) () ()) (ret 0))", "(fun F ((sec a)) (if a () ()) (ret 0))", "(fun F () (if (add 1 (get k 0)) () ()) (ret 0))", "(export F () (set x (get k 0)) (if x () ()) (ret 0))", "(export F () (if x () ()) (for i 1 (set x (get k 0))) (ret 0))", "(fun F ((sec a)) (for i 1 (if i ((if (sel a 1 2) () ())) ())) (ret 0))", "(fun F () (if (call id 1) () ()) (ret 0))", "(fun F ((sec a)) (if 1 () ((if (open 1) () ((if a () ()))))) (ret 0))", "(fun F (a) (set a (get k 0)) (if a () ()) (ret 0))",
			// Indices.
			"(fun F () (ret (get k (get k 0))))", "(fun F ((sec a)) (ret (get k a)))", "(fun F ((sec a) (ptr q 1)) (ret (get q a)))", "(fun F ((sec a)) (put k a 0) (ret 0))", "(fun F ((sec a) (ptr q 1)) (put q a 0) (ret 0))", "(export F () (ret (open (get k (get k 0)))))", "(export F ((ptr q 1)) (ret (get q (add 1 (get k 0)))))", "(fun F () (put k (get k 0) (get k 0)) (ret 0))", "(fun F () (for i 3 (set x (open (get k (sel 1 i x)))) (set x (get k i))) (ret 0))", "(fun F () (set i (get k 0)) (for i 3 (set x (get k i))) (ret 0))",
			// Arguments of divisions.
			"(fun F ((sec a)) (ret (divu a 3)))", "(fun F ((sec a)) (ret (divu 3 a)))", "(fun F ((sec a)) (ret (remu a 3)))", "(fun F ((sec a)) (ret (remu 3 a)))", "(export F () (ret (open (divu (get k 0) 2))))", "(export F () (set x (get k 0)) (ret (open (remu 2 (add x x)))))", "(fun F ((sec a)) (set x (divu 1 (mul 2 (divu 3 (open (divu a 1)))))) (ret 0))", "(fun F () (for i 1 (set x (divu (call id 1) 1))) (ret 0))",
			// Arguments for words.
			"(fun F ((sec a)) (ret (call pub a)))", "(export F () (ret (call pub (get k 0))))", "(fun F ((ptr q 3) (sec a)) (ret (call at q a)))", "(export F ((ptr q 3)) (set x (call id 1)) (ret (call at q x)))", "(fun Fx (a b c d e g) (ret 0)) (fun F ((sec z)) (ret (call Fx 1 2 3 4 5 z)))", "(fun Fx (a b c d e g) (ret 0)) (fun F ((sec z)) (ret (call Fx z 2 3 4 5 6)))", "(fun Fx ((sec a) b (sec c)) (ret 0)) (fun F ((sec z)) (ret (call Fx z z z)))", "(fun F () (ret (call id (open (call pub (call id 1))))))",
			// What is put to what a pointer points at.
			"(fun F ((ptr q 1)) (put q 0 (get k 0)) (ret 0))", "(export F ((ptr q 1)) (put q 0 (get k 0)) (ret 0))", "(fun F ((ptr q 1) (sec a)) (put q 0 a) (ret 0))", "(fun F ((ptr q 1)) (put q 0 (sel 1 2 (call id 1))) (ret 0))", "(fun F ((ptr q 1)) (for i 1 (if 1 () ((put q i x)))) (set x (get k 0)) (ret 0))",
			// What an export returns.
			"(export F () (ret (get k 0)))", "(export F () (ret (call id 0)))", "(export F (a) (set a (get k 0)) (ret a))", "(export F () (for i 1 (set x (get k i))) (ret x))", "(export F () (ret (sel (get k 0) 1 2)))", "(export F () (ret (slt 1 (get k 0))))", "(fun Fx () (ret (get k 0))) (fun Fy (a) (set a (call Fx)) (ret (add a a))) (export F () (set x (call Fy 1)) (ret (sub x x)))",
		},
		api.Size: {
			"(fun F () (for i 64 (for j 64)) (ret 0))", "(export F () (for i 64 (for j 60 (set x 1))) (ret 0))", "(fun Fx () (for i 64 " + sets(60) + ") (ret 0)) (fun F () " + sets(92) + "(set x (call Fx)) (ret 0))", "(export F () (for i 64 (if i () (" + sets(62) + "))) (ret 0))", "(export F () (if x () ((if x ((for i 64 (put k i (call id i)))) ()))) (for l 60 (for m 64)) (ret 0))",
		},
	}
}

// wrongHead is what stands ahead of wrongs.
const wrongHead = "(secret k 4) (fun id ((sec a)) (ret a)) (fun pub (a) (ret a)) (fun at ((ptr p 3) i) (ret (get p i))) "

// named is an item with its name.
func named(item, name string) string {
	return strings.ReplaceAll(item, "F", name)
}

// TestWrongSources has sources that are wrong by one thing.
func TestWrongSources(t *testing.T) {
	wantCode(t, wrongHead, api.OK)
	for code, items := range wrongs() {
		for _, x := range items {
			wantCode(t, wrongHead+named(x, "f"), code)
			wantCode(t, wrongHead+"(fun g () (ret 0)) "+named(x, "f")+" (export h (a) (ret a))", code)
		}
	}
	// Secret arrays can't stand behind functions.
	for _, s := range []string{"(secret k 1) (secret k 1)", "(secret k 1) (secret k 2)", "(secret a 1) (secret k 1) (secret a 1)", "(secret a 1) (secret k 1) (secret k 1) (fun f () (ret 0))", "(secret f 1) (fun f () (ret 0))", "(secret f 1) (secret g 1) (export g () (ret 0))", "(secret k 1) (secret l 1) (fun f (a l) (ret 0))"} {
		wantCode(t, s, api.Twice)
	}
	// What is one function's isn't another's.
	for s, code := range map[string]api.Code{
		"(fun f ((ptr p 1)) (ret 0)) (fun g () (ret (get p 0)))":                        api.Undefined,
		"(fun f () (ret (get p 0))) (fun g ((ptr p 1)) (ret 0))":                        api.Undefined,
		"(fun f ((ptr p 1)) (ret 0)) (fun g () (ret p))":                                api.OK,
		"(fun f ((ptr p 1)) (ret 0)) (export g (p) (for p 2) (set p 1) (ret p))":        api.OK,
		"(fun f ((sec a)) (ret 0)) (export g (a) (if a () ()) (ret (divu x a)))":        api.OK,
		"(fun f ((sec a)) (set b a) (ret b)) (export g () (if b () ()) (ret b))":        api.OK,
		"(fun f () (for i 2 (set j i)) (ret 0)) (fun g () (for j 2 (set i j)) (ret 0))": api.OK,
	} {
		wantCode(t, s, code)
	}
}

// TestTwoAtOnce: of two wrongs that one is told whose code is named first, whichever stands first.
func TestTwoAtOnce(t *testing.T) {
	order := []api.Code{api.Twice, api.Undefined, api.Typed, api.Secret, api.Size}
	all := wrongs()
	for i, first := range order {
		for _, second := range order[i:] {
			for n := range max(len(all[first]), len(all[second])) {
				x, y := all[first][n%len(all[first])], all[second][n%len(all[second])]
				wantCode(t, wrongHead+named(x, "f")+" "+named(y, "g"), first)
				wantCode(t, wrongHead+named(y, "f")+" "+named(x, "g"), first)
			}
		}
	}
}

// TestTwoInOneFunction has two wrongs in one function, as statements of it, one within the other, too.
func TestTwoInOneFunction(t *testing.T) {
	stmts := []struct {
		s    string
		code api.Code
	}{
		{"(set x (call none))", api.Undefined}, {"(put x 0 1)", api.Undefined}, {"(set x (get y 0))", api.Undefined},
		{"(set k 1)", api.Typed}, {"(set x k)", api.Typed}, {"(for k 1)", api.Typed}, {"(for i 1 (set i 1))", api.Typed}, {"(set x (call id))", api.Typed}, {"(ret 1)", api.Typed}, {"(set x (call at 1 1))", api.Typed},
		{"(if (get k 0) () ())", api.Secret}, {"(put q 0 (get k 0))", api.Secret}, {"(set x (get k (get k 0)))", api.Secret}, {"(set x (divu 1 (get k 0)))", api.Secret}, {"(set x (call pub (get k 0)))", api.Secret},
		{"(for i 64 (for j 64))", api.Size}, {"(set x (call dear))", api.Size},
	}
	head := wrongHead + "(fun dear () (for i 64 (for j 64)) (ret 0)) "
	first := func(a, b api.Code) api.Code {
		for _, code := range []api.Code{api.Undefined, api.Typed, api.Secret, api.Size} {
			if a == code || b == code {
				return code
			}
		}
		return api.OK
	}
	for _, x := range stmts {
		for _, y := range stmts {
			code := first(first(x.code, y.code), api.Size) // dear is
			for _, s := range []string{x.s + y.s + "(ret 0)", x.s + "(for z 2 " + y.s + ") (ret 0)", "(if 1 (" + x.s + ") ((if 2 () (" + y.s + ")))) (ret 0)"} {
				wantCode(t, head+"(fun f ((ptr q 1)) "+s+")", code)
			}
			if x.code == api.Typed {
				continue
			}
			// Twice is told ahead of all, and a secret word of an export ahead of what is Secret.
			wantCode(t, head+"(fun f ((ptr q 1) q) "+x.s+y.s+"(ret 0))", api.Twice)
			wantCode(t, head+"(export f ((ptr q 1) (sec z)) "+x.s+y.s+"(ret 0))", first(first(x.code, y.code), api.Typed))
		}
	}
}

// within is an expression that holds one list in so many places, so often within another: far greater than the room that it takes.
func within(times, deep int, leaf api.Expr) api.Expr {
	for range deep {
		l := slices.Repeat([]api.Expr{leaf}, times)
		switch times {
		case 2:
			leaf = api.Expr{Kind: api.EOp, Num: api.Xor, Args: l}
		case 3:
			leaf = api.Expr{Kind: api.ESel, Args: l}
		default:
			leaf = call("six", l...)
		}
	}
	return leaf
}

// forked is ifs, both lists of each one and the same, so many within each other.
func forked(deep int, l ...api.Stmt) []api.Stmt {
	for range deep {
		l = []api.Stmt{cond(num(1), l, l), cond(vari("x"), l, l)}
	}
	return l
}

// TestSharedLists: trees too great to be gone through place by place are told all the same.
func TestSharedLists(t *testing.T) {
	six := api.Func{Name: "six", Params: []api.Param{{Name: "a", Kind: api.SecWord}, {Name: "b", Kind: api.SecWord}, {Name: "c", Kind: api.SecWord}, {Name: "d", Kind: api.SecWord}, {Name: "e", Kind: api.SecWord}, {Name: "g", Kind: api.SecWord}}, Body: []api.Stmt{ret(vari("g"))}}
	key := get("k", num(0))
	for _, leaf := range []struct {
		e      api.Expr
		code   api.Code
		result bool
	}{
		{num(1), api.Size, false}, {vari("x"), api.Size, false}, {vari("y"), api.Size, true}, {key, api.Size, true}, {opened(key), api.Size, false},
		{get("k", key), api.Secret, true}, {vari("k"), api.Typed, false}, {get("x", num(1)), api.Undefined, false}, {call("f"), api.Undefined, false}, {call("six"), api.Typed, false}, {vari("A"), api.Arg, false},
	} {
		for _, times := range []int{2, 3, 6} {
			p := body(set("y", key), ret(within(times, 20, leaf.e)))
			p.Funcs = slices.Insert(p.Funcs, 0, six)
			want := told{secrets: []string{"y"}, result: leaf.result || times == 6, cost: 4001}
			if leaf.code != api.Size && leaf.code != api.Secret {
				want = told{}
			}
			if got := sec.Check(p); got != leaf.code {
				t.Errorf("P11.1: %d times %v: %d; want %d", times, leaf.e, got, leaf.code)
			}
			wantTold(t, p, 1, want)
		}
	}
	for _, deep := range []int{1, 2, 21} {
		l := []api.Stmt{set("x", get("k", num(0)))}
		for i := range deep {
			l = slices.Repeat([]api.Stmt{loop(fmt.Sprint("i", i), 64, l...)}, 40)
		}
		p := body(append(slices.Clone(l), ret(vari("x")))...)
		if got := sec.Check(p); got != api.Size {
			t.Errorf("P11.1: %d loops: %d", deep, got)
		}
		wantTold(t, p, 0, told{secrets: []string{"x"}, result: true, cost: 4001})
		p.Funcs[0].Out = true
		if got := sec.Check(p); got != api.Secret {
			t.Errorf("P11.1: %d loops: %d", deep, got)
		}
	}
	for _, leaf := range []struct {
		s       api.Stmt
		code    api.Code
		secrets string
	}{
		{set("x", num(1)), api.Size, ""}, {set("y", key), api.Size, "y"}, {set("x", key), api.Secret, "x"}, {set("k", num(1)), api.Typed, ""}, {ret(num(1)), api.Typed, ""}, {set("y", call("none")), api.Undefined, ""}, {loop("j", 2), api.Typed, ""}, {loop("i", 2), api.Size, ""}, {api.Stmt{}, api.Arg, ""},
	} {
		p := body(loop("j", 64, forked(10, leaf.s)...), ret(num(0)))
		if got := sec.Check(p); got != leaf.code {
			t.Errorf("P11.1: forks of %v: %d; want %d", leaf.s, got, leaf.code)
		}
		want := told{secrets: strings.Fields(leaf.secrets), cost: 4001}
		if leaf.code != api.Size && leaf.code != api.Secret {
			want = told{}
		}
		wantTold(t, p, 0, want)
	}
}

// TestOverlappingLists: what is wrong in one place is so, even if the list isn't in another.
func TestOverlappingLists(t *testing.T) {
	// The return is last in the function, and in the loop as well.
	l := []api.Stmt{loop("i", 2), ret(num(1))}
	l[0].Then = l[1:]
	wantNothing(t, "a return within a loop", body(l...), api.Typed)
	l[0] = cond(num(1), nil, l[1:])
	wantNothing(t, "a return within an if", body(l...), api.Typed)
	l[0] = set("x", num(1))
	if wantAsSlow(t, body(l...)) != api.OK {
		t.Error("the test is wrong")
	}
	wantNothing(t, "no return", body(l[:1]...), api.Typed)
	// A return that is another function's last.
	p := body(l...)
	p.Funcs = append(p.Funcs, api.Func{Name: "g", Body: []api.Stmt{loop("i", 2, l...), ret(num(2))}})
	wantNothing(t, "another's return", p, api.Typed)
	p.Funcs[1].Body = l[1:]
	if wantAsSlow(t, p) != api.OK {
		t.Error("the test is wrong")
	}

	// A variable is set behind a loop, and within it as well.
	l = []api.Stmt{loop("i", 2), set("i", num(1)), loop("j", 2), set("j", num(1)), ret(num(1))}
	if wantAsSlow(t, body(l...)) != api.OK {
		t.Error("the test is wrong")
	}
	l[0].Then = l[3:4]
	if wantAsSlow(t, body(l...)) != api.OK {
		t.Error("the test is wrong")
	}
	l[0].Then = l[1:2]
	wantNothing(t, "a loop's variable set", body(l...), api.Typed)
	l[0].Then = l[2:3]
	l[2].Then = l[1:2]
	wantNothing(t, "an outer loop's variable set", body(l...), api.Typed)

	// One list is handed on as pointers, as words, and to none.
	args := []api.Expr{vari("p"), vari("q")}
	q := parsed(t, "(fun one ((ptr p 2)) (ret 0)) (fun word (a) (ret 0)) (fun f ((ptr p 2) (ptr q 1)) (ret 0))")
	with := func(l ...api.Expr) api.Prog {
		x := api.Prog{Funcs: slices.Clone(q.Funcs)}
		x.Funcs[2].Body = nil
		for _, e := range l {
			x.Funcs[2].Body = append(x.Funcs[2].Body, set("x", e))
		}
		x.Funcs[2].Body = append(x.Funcs[2].Body, ret(num(0)))
		return x
	}
	if wantAsSlow(t, with(call("one", args[:1]...), call("one", args[:1]...))) != api.OK {
		t.Error("the test is wrong")
	}
	wantNothing(t, "a pointer at one word less", with(call("one", args[1:]...)), api.Typed)
	wantNothing(t, "two pointers", with(call("one", args[:1]...), call("one", args...)), api.Typed)
	wantNothing(t, "a pointer for a word", with(call("one", args[:1]...), call("word", args[:1]...)), api.Typed)
	wantNothing(t, "a pointer for a word ahead", with(call("word", args[:1]...), call("one", args[:1]...)), api.Typed)
	wantNothing(t, "a pointer opened", with(call("one", args[:1]...), api.Expr{Kind: api.EOpen, Args: args[:1]}), api.Typed)
	wantNothing(t, "pointers added", with(call("one", args[:1]...), api.Expr{Kind: api.EOp, Args: args}), api.Typed)
}

// TestGreatTrees has trees far longer than sources, of long chains, told soon.
func TestGreatTrees(t *testing.T) {
	const n = 100000
	name := func(i int) string { return fmt.Sprintf("v%06d", i) }
	var l []api.Stmt
	var names []string
	for i := range n {
		l = append(l, set(name(i), vari(name(i+1)))) // each is secret, if the next one is
		names = append(names, name(i))
	}
	names = append(names, name(n))
	p := body(slices.Concat(l, []api.Stmt{set(name(n), get("k", num(0))), ret(vari(name(0)))})...)
	if got := sec.Check(p); got != api.Size {
		t.Errorf("P11.1: a long chain: %d", got)
	}
	wantTold(t, p, 0, told{secrets: names, result: true, cost: 4001})
	p.Funcs[0].Out = true
	if got := sec.Check(p); got != api.Secret {
		t.Errorf("P11.1: a long chain: %d", got)
	}
	q := body(slices.Concat(l, []api.Stmt{set(name(n), opened(get("k", num(0)))), ret(vari(name(0)))})...)
	if got := sec.Check(q); got != api.Size {
		t.Errorf("P11.1: a long chain that is opened: %d", got)
	}
	wantTold(t, q, 0, told{cost: 4001})
	q = body(slices.Concat(slices.Repeat([]api.Stmt{loop("i", 64, loop("j", 64)), loop("j", 64, loop("i", 64))}, n/4), []api.Stmt{ret(num(0))})...)
	if got := sec.Check(q); got != api.Size {
		t.Errorf("P11.1: many loops: %d", got)
	}
}

// TestNoFunction: of a function that isn't there nothing is told, nor of one in a source that is wrong.
func TestNoFunction(t *testing.T) {
	s := "(secret k 1) (fun f ((sec a)) (ret a)) (fun g ((sec b)) (set x b) (ret 0))"
	for _, more := range []string{"", "(export h () (ret (get k 0)))", "(fun h () (for i 64 (for j 64)) (ret 0))", "(export h () (for i 64 (for j 64)) (ret (get k 0)))"} {
		p := parsed(t, s+more)
		wantTold(t, p, 0, told{secrets: []string{"a"}, result: true, cost: 2})
		wantTold(t, p, 1, told{secrets: []string{"b", "x"}, cost: 4})
		for _, f := range []int{-1, -2, len(p.Funcs), len(p.Funcs) + 1, math.MaxInt, math.MinInt, -1 << 32, 1 << 32, 1<<32 + 1} {
			wantTold(t, p, f, told{})
		}
	}
	for more, code := range map[string]api.Code{"(fun f () (ret 0))": api.Twice, "(fun h () (ret (call h)))": api.Undefined, "(fun h ())": api.Typed} {
		wantNothing(t, more, parsed(t, s+more), code)
		wantNothing(t, more, parsed(t, s+more+"(export i () (for i 64 (for j 64)) (ret (get k 0)))"), code)
	}
	for _, f := range []int{-1, 0, 1} {
		wantTold(t, api.Prog{}, f, told{})
		wantTold(t, parsed(t, "(secret k 1)"), f, told{})
	}
}
