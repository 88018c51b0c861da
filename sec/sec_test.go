package sec_test

import (
	"fmt"
	"math"
	"slices"
	"strings"
	"testing"

	"caponier/api"
	"caponier/sec"
	"caponier/tree"
)

const longest = "abcdefghijklmnopqrstuv_9" // 24 characters

// short is a source in few characters, since some are great.
func short(p api.Prog) string {
	s, e := tree.Print(p)
	if e == api.Arg {
		s = "a tree of no source"
	}
	if e == api.Size {
		s = "a source that is too long"
	}
	if len(s) > 600 {
		return s[:600] + ".."
	}
	return s
}

// parsed is a source's tree.
func parsed(t *testing.T, s string) api.Prog {
	t.Helper()
	p, e := tree.Parse(s)
	if e != api.OK {
		t.Fatalf("the test is wrong: %s: %d", s, e)
	}
	return p
}

// wantAsSlow wants all to be told of a source as the tests' own way tells it.
func wantAsSlow(t *testing.T, p api.Prog) api.Code {
	t.Helper()
	code, all := slowSec(p)
	if got := sec.Check(p); got != code {
		t.Errorf("P11.1: %s: %d; want %d", short(p), got, code)
	}
	for f := range p.Funcs {
		want := told{}
		if all != nil {
			want = all[f]
		}
		wantTold(t, p, f, want)
	}
	for _, f := range []int{-1, len(p.Funcs), len(p.Funcs) + 1, math.MaxInt, math.MinInt} {
		wantTold(t, p, f, told{})
	}
	return code
}

// wantTold wants this to be told of a function.
func wantTold(t *testing.T, p api.Prog, f int, want told) {
	t.Helper()
	got := told{secrets: sec.Secrets(p, f), result: sec.Result(p, f), cost: sec.Cost(p, f)}
	if !slices.Equal(got.secrets, want.secrets) || got.result != want.result || got.cost != want.cost {
		t.Errorf("P11.2: %s: %d: %v; want %v", short(p), f, got, want)
	}
}

// wantCode wants a source to have a code.
func wantCode(t *testing.T, s string, code api.Code) {
	t.Helper()
	p := parsed(t, s)
	if got := sec.Check(p); got != code {
		t.Errorf("P11.1: %s: %d; want %d", s, got, code)
	}
	wantAsSlow(t, p)
}

// wantLast wants this to be told of a source's last function.
func wantLast(t *testing.T, s string, want told) {
	t.Helper()
	p := parsed(t, s)
	wantTold(t, p, len(p.Funcs)-1, want)
	wantAsSlow(t, p)
}

// TestExamples are the chapter's.
func TestExamples(t *testing.T) {
	wantCode(t, "(secret k 1)(export f () (ret (get k 0)))", api.Secret)
	wantCode(t, "(secret k 1)(export f () (ret (open (get k 0))))", api.OK)
}

// TestRight has sources that are right.
func TestRight(t *testing.T) {
	if e := sec.Check(api.Prog{}); e != api.OK {
		t.Errorf("P11.1: the empty source: %d", e)
	}
	if e := sec.Check(api.Prog{Secrets: []api.Array{}, Funcs: []api.Func{}}); e != api.OK {
		t.Errorf("P11.1: the empty source, of lists: %d", e)
	}
	for _, s := range []string{
		"",
		"(secret k 1)",
		"(secret k 1) (secret l 64) (secret m 2)",
		"(fun f () (ret 0))",
		"(export f () (ret 0))",
		"(export f () (ret x))",
		"(export f (a b c d e g) (ret (add a (add b (add c (add d (add e g)))))))",
		"(fun f (a (sec b) (ptr c 1) d (sec e) (ptr g 64)) (ret (sel b (get c a) (get g (open e)))))",
		"(fun f ((sec a) (sec b) (sec c) (sec d) (sec e) (sec g)) (ret (add a g)))",
		"(export f ((ptr a 1) (ptr b 2) (ptr c 3) (ptr d 4) (ptr e 5) (ptr g 6)) (put a 0 (get g 5)) (ret 0))",
		// Names that are the same, where they may be.
		"(secret k 1) (fun f (f) (set g f) (ret g)) (fun g (f) (set g (call f g)) (ret (call f f)))",
		"(fun f ((ptr a 1)) (ret (get a 0))) (fun g (a) (set a 1) (ret a)) (fun h () (for a 2) (set a 1) (ret a)) (export i (sec ptr) (ret sec))",
		"(secret set 1) (fun get (put) (set if put) (put set 0 if) (ret (get set put)))",
		"(secret " + longest + " 1) (fun f () (put " + longest + " 0 0) (ret 0))",
		// Variables that are set nowhere, set behind where they are used, or only in a loop.
		"(export f () (set x y) (set y 1) (ret z))",
		"(export f () (for i 3 (if x () ((set x 1)))) (ret (add i x)))",
		// A loop's counter elsewhere.
		"(export f () (set i 1) (for i 2) (set i 2) (ret i))",
		"(export f () (for i 2 (set x i)) (for i 3 (set y i)) (ret i))",
		"(export f () (for i 2 (for j 2 (set x (add i j))) (for j 3)) (for j 2 (for i 2)) (ret i))",
		"(export f () (if x ((for i 1)) ((for i 1 (set x i)))) (ret i))",
		"(export f () (for i 1 (if i ((set x 1)) ((for j 1 (set x 2))))) (ret x))",
		// Statements within others.
		"(export f (a) (if a () ()) (if a ((if a () ((if a ((set x 1)) ())))) ((for i 2 (if i ((set x 2)) ())))) (for i 1) (ret x))",
		// Calls of functions that call others.
		"(fun one () (ret 1)) (fun two () (ret (add (call one) (call one)))) (fun four () (ret (add (call two) (call two)))) (export f () (ret (call four)))",
		"(fun f (a b) (ret a)) (export g (x) (ret (call f (call f (call f x 1) x) (call f 2 (call f x x)))))",
		"(fun f () (ret 1)) (export g () (ret 2)) (fun h () (ret (call f))) (export i () (ret (call h)))",
		// Pointers that are handed on: at as many words, at one more.
		"(fun f ((ptr p 2)) (ret (get p 0))) (fun g ((ptr p 2)) (ret (call f p))) (export h ((ptr q 3)) (ret (call g q)))",
		"(fun f ((ptr p 1) (ptr q 64)) (put p 0 (get q 1)) (ret 0)) (export g ((ptr a 64) b (ptr c 63)) (set x (call f a a)) (ret (call f c a)))",
		"(fun f (p (ptr q 1)) (ret p)) (export g ((ptr p 1)) (ret (call f (get p 0) p)))",
		// Secrets where they may be.
		"(secret k 2) (fun f ((sec a)) (ret (sel a a (get k 0)))) (export g (x) (set y (call f (call f (get k x)))) (put k x (add y 1)) (ret (open y)))",
		"(secret k 2) (fun f () (set x (get k 0)) (set x (shl (shr (sar (mul (or (and (xor (sub x 1) x) x) x) x) x) x) x)) (set x (slt x (sltu x x))) (ret x))",
		"(secret k 2) (export f ((ptr p 1)) (put k (get p 0) (get k (get p 0))) (put p 0 (open (get k 0))) (ret (get p 0)))",
		"(secret k 1) (export f (x) (set x (get k 0)) (ret 0))",
	} {
		wantCode(t, s, api.OK)
	}
}

// TestManyItems: 32 secret arrays and 32 functions, each of which calls the one ahead.
func TestManyItems(t *testing.T) {
	var b strings.Builder
	for i := range 32 {
		fmt.Fprintf(&b, "(secret k%d %d)", i, 2*i+1)
	}
	b.WriteString("(fun f0 () (ret (get k0 0)))")
	for i := range 31 {
		fmt.Fprintf(&b, "(fun f%d () (set x%d (add (call f%d) (get k%d 0))) (ret x%d))", i+1, i+1, i, i+1, i+1)
	}
	wantCode(t, b.String(), api.OK)
	p := parsed(t, b.String())
	for i := range 32 {
		want := told{result: true, cost: 3}
		if i > 0 {
			want = told{secrets: []string{fmt.Sprint("x", i)}, result: true, cost: 3 + 7*i}
		}
		wantTold(t, p, i, want)
	}
}

// TestSecretVariables tells which variables of a function are secret, and whether what it returns is.
func TestSecretVariables(t *testing.T) {
	head := "(secret k 4) (secret l 1) (fun id ((sec a)) (ret a)) (fun one ((sec a)) (ret 1)) (fun key () (ret (get k 0))) (fun deep (a) (set b (call key)) (ret b)) (fun at ((ptr p 1)) (ret (get p 0))) "
	for s, want := range map[string]struct {
		secrets string
		result  bool
	}{
		"() (ret 0)": {"", false},
		// Parameters.
		"(a (sec b) (ptr c 1) (sec d)) (ret 0)":                        {"b d", false},
		"((sec b) (sec a)) (ret b)":                                    {"a b", true},
		"(a (sec b)) (ret a)":                                          {"b", false},
		"((sec a)) (set a 0) (ret a)":                                  {"a", true},
		"(a) (set a (get k 0)) (ret a)":                                {"a", true},
		"(a) (ret a) ":                                                 {"", false},
		"((sec z) (sec _) (sec a) (sec a0) (sec a_) (sec aa)) (ret 0)": {"_ a a0 a_ aa z", false},
		// Elements.
		"() (set x (get k 0)) (ret x)":                                      {"x", true},
		"() (put k 0 1) (ret (get k 0))":                                    {"", true},
		"((ptr p 1)) (set x (get p 0)) (ret (get p 0))":                     {"", false},
		"((ptr p 1)) (put k 0 (get p 0)) (set x (get k 1)) (ret (get p 1))": {"x", false},
		// Operations and choices.
		"((sec a)) (set x (add a 1)) (set y (sub 1 a)) (set z (mul 1 1)) (ret z)":                 {"a x y", false},
		"((sec a)) (set x (shl 1 a)) (set y (shr a 1)) (set z (sar 0 a)) (ret (slt 1 a))":         {"a x y z", true},
		"((sec a)) (set x (or 1 a)) (set y (and a 1)) (set z (xor 0 a)) (ret (sltu a 1))":         {"a x y z", true},
		"((sec a)) (set x (divu 1 2)) (set y (remu b c)) (ret (divu (open a) (open a)))":          {"a", false},
		"((sec a)) (set x (sel a 1 2)) (set y (sel 1 a 2)) (set z (sel 1 2 a)) (ret (sel 1 2 3))": {"a x y z", false},
		"((sec a)) (set x (sel 1 (sel 2 3 (add 1 (add 2 a))) 4)) (ret (sel 1 2 (sel a 1 1)))":     {"a x", true},
		// What is opened.
		"((sec a)) (set x (open a)) (set y (add x (open (get k 0)))) (ret y)":       {"a", false},
		"((sec a)) (set x (add a (open a))) (set y (open x)) (ret (open (open x)))": {"a x", false},
		"((sec a)) (set x (sel (open a) (open a) (open a))) (ret x)":                {"a", false},
		// Calls: what is returned, and not what is handed in.
		"() (set x (call id 1)) (ret (call id 1))":                                     {"x", true},
		"((sec a)) (set x (call one a)) (ret (call one (get k 0)))":                    {"a", false},
		"() (set x (call key)) (set y (call deep 1)) (ret (call deep (open y)))":       {"x y", true},
		"((ptr p 2)) (set x (call at p)) (put p 0 (open (get k 0))) (ret (call at p))": {"", false},
		"() (set x (add 1 (call one (call key)))) (ret (open (call id x)))":            {"", false},
		// Chains, in whatever order.
		"() (set a (get l 0)) (set b a) (set c b) (set d c) (ret d)":                                         {"a b c d", true},
		"() (set d c) (set c b) (set b a) (set a (get l 0)) (ret d)":                                         {"a b c d", true},
		"() (set c b) (set a (get l 0)) (set d c) (set b a) (ret d)":                                         {"a b c d", true},
		"() (set a b) (set b c) (set c a) (ret c)":                                                           {"", false},
		"() (set a b) (set b c) (set c a) (set b (key)) (ret c)":                                             {"a b c", true},
		"() (set x y) (if 1 ((set y z)) ()) (for i 3 (if i () ((set z (sel 1 w 0))))) (set w (key)) (ret x)": {"w x y z", true},
		"() (set x (call id y)) (set y (call one (key))) (ret y)":                                            {"x", false},
		"() (set x (open y)) (set y (key)) (set z x) (ret z)":                                                {"y", false},
		"() (set x (get k y)) (set y 1) (ret (open x))":                                                      {"x", false},
		"((sec x)) (set x x) (set y y) (ret y)":                                                              {"x", false},
		// Set nowhere but in what is done never, or later.
		"() (if 0 ((set x (key))) ()) (ret x)":                    {"x", true},
		"() (if 0 () ((if 0 () ((set x (key)))))) (ret x)":        {"x", true},
		"() (for i 1 (for j 1 (set x (key)))) (ret x)":            {"x", true},
		"() (set y x) (set x (key)) (set x 0) (ret y)":            {"x y", true},
		"() (for i 2 (set z y) (set y (get k i))) (ret (open z))": {"y z", false},
		// What counts.
		"() (for i 3 (set x (get k i))) (ret i)":                           {"x", false},
		"((sec a)) (for i 3 (set x (add a i))) (set y i) (ret y)":          {"a x", false},
		"() (set i (key)) (for j 2) (ret i)":                               {"i", true},
		"() (for i 3 (set x i)) (set i (key)) (ret x)":                     {"i x", true},
		"() (set i (key)) (for i 3 (set x i)) (ret 0)":                     {"i x", false},
		"() (set i (key)) (for i 3) (for i 2 (set x (add i 1))) (ret i)":   {"i x", true},
		"() (for i 3) (for i 2 (set x (add i 1))) (ret x)":                 {"", false},
		"((sec i)) (for i 3) (ret i)":                                      {"i", true},
		"(i) (for i 3) (ret i)":                                            {"", false},
		"() (for i 3 (for j 2 (set x j))) (set j x) (set x (key)) (ret i)": {"j x", false},
		// Names that are others' elsewhere.
		"(id) (set key id) (set p 1) (set at (get k p)) (ret key)": {"at", false},
		"() (set a 1) (set b 1) (ret (add a b))":                   {"", false},
	} {
		s = strings.ReplaceAll(s, "(key)", "(call key)")
		for _, word := range []string{"fun", "export"} {
			if word == "export" && strings.Contains(s, "(sec ") {
				continue
			}
			p := parsed(t, head+"("+word+" f "+s+")")
			f := len(p.Funcs) - 1
			if got := sec.Secrets(p, f); !slices.Equal(got, strings.Fields(want.secrets)) {
				t.Errorf("P11.2: %s: %v; want %s", s, got, want.secrets)
			}
			if got := sec.Result(p, f); got != want.result {
				t.Errorf("P11.2: %s: %v; want %v", s, got, want.result)
			}
			code := api.OK
			if word == "export" && want.result {
				code = api.Secret
			}
			if got := sec.Check(p); got != code {
				t.Errorf("P11.1: %s %s: %d; want %d", word, s, got, code)
			}
			wantAsSlow(t, p)
		}
	}
}

// TestCosts tells what a function costs.
func TestCosts(t *testing.T) {
	head := "(secret k 4) (fun one ((sec a)) (ret 1)) (fun two (a b) (set x a) (ret (call one b))) (fun at ((ptr p 1)) (ret (get p 0))) "
	for s, want := range map[string]int{
		"() (ret 0)":                                                        2,
		"() (ret x)":                                                        2,
		"(a b c) (ret x)":                                                   2,
		"() (ret (get k 0))":                                                3,
		"() (ret (get k (get k 0)))":                                        4,
		"() (ret (add 1 2))":                                                4,
		"() (ret (add (add 1 2) (mul 3 x)))":                                8,
		"() (ret (sel 1 2 3))":                                              5,
		"() (ret (open 1))":                                                 3,
		"() (ret (open (open (open 1))))":                                   5,
		"() (set x 1) (ret 0)":                                              4,
		"() (set x (divu 1 2)) (ret 0)":                                     6,
		"() (put k 0 1) (ret 0)":                                            5,
		"() (put k (add 0 1) (open 1)) (ret 0)":                             8,
		"() (if 1 () ()) (ret 0)":                                           4,
		"() (if (add 1 2) ((set x 1)) ()) (ret 0)":                          8,
		"() (if 1 () ((set x 1))) (ret 0)":                                  6,
		"() (if 1 ((set x 1) (set y 1)) ((set x (open 1)))) (ret 0)":        11,
		"() (if 1 ((if 1 ((if 1 () ())) ())) ()) (ret 0)":                   8,
		"() (for i 1) (ret 0)":                                              4,
		"() (for i 2) (ret 0)":                                              5,
		"() (for i 64) (ret 0)":                                             67,
		"() (for i 1 (set x 1)) (ret 0)":                                    6,
		"() (for i 3 (set x 1)) (ret 0)":                                    12,
		"() (for i 3 (set x 1) (set y (open x))) (ret 0)":                   21,
		"() (for i 3 (for j 4)) (ret 0)":                                    21,
		"() (for i 3 (for j 4 (set x 1)) (set y 1)) (ret 0)":                2 + 1 + 3*(1+1+4*3+2),
		"() (for i 3 (if i ((for j 5 (set x 1))) ((put k 0 1)))) (ret 0)":   2 + 1 + 3*(1+2+1+5*3+3),
		"() (ret (call one 1))":                                             5,
		"() (ret (call one (call one (call one 1))))":                       11,
		"() (ret (call two 1 2))":                                           11,
		"() (ret (add (call two 1 2) (call one 3)))":                        1 + 1 + 10 + 4,
		"((ptr p 1)) (ret (call at p))":                                     6,
		"() (for i 7 (set x (call two i (call one i)))) (ret (call one x))": 1 + 7*(1+1+1+1+1+4-1+7) + 5,
		"() (if (call one 1) ((set x (call one 1))) ((put k (open (call one 1)) (call one 1)))) (ret 0)": 2 + 1 + 4 + 5 + 10,
	} {
		p := parsed(t, head+"(fun f "+s+")")
		if got := sec.Cost(p, 3); got != want {
			t.Errorf("P11.2: %s: %d; want %d", s, got, want)
		}
		for i, n := range []int{2, 7, 3} {
			if got := sec.Cost(p, i); got != n {
				t.Errorf("P11.2: %d: %d; want %d", i, got, n)
			}
		}
		wantAsSlow(t, p)
	}
}

// sets is statements that cost so much, 2 or more.
func sets(n int) string {
	if n%2 == 0 {
		return strings.Repeat("(set x 1)", n/2)
	}
	return "(set x (open 1))" + strings.Repeat("(set x 1)", (n-3)/2)
}

// wantCost wants a source's last function to cost so much, or to be too dear, and the source to have that code, if all ahead are cheaper.
func wantCost(t *testing.T, s string, cost int) {
	t.Helper()
	p := parsed(t, s)
	code := api.OK
	if cost > 4000 {
		cost, code = 4001, api.Size
	}
	if got := sec.Cost(p, len(p.Funcs)-1); got != cost {
		t.Errorf("P11.2: %s: %d; want %d", short(p), got, cost)
	}
	if got := sec.Check(p); got != code {
		t.Errorf("P11.1: %s: %d; want %d", short(p), got, code)
	}
	wantAsSlow(t, p)
}

// TestMostCost: a function may cost just 4000, however it comes to that.
func TestMostCost(t *testing.T) {
	for n := 3990; n < 4010; n++ {
		for what, s := range map[string]string{
			"statements":      "(fun f () " + sets(n-2) + "(ret 0))",
			"a loop":          "(fun f () (for i 64 " + sets(60) + ")" + sets(n-2-(1+64*61)) + "(ret 0))",
			"two loops":       "(fun f () (for i 30 (for j 60)) " + sets(n-2-(1+30*(1+1+60))) + "(ret 0))",
			"three loops":     "(fun f () (for i 10 (for j 9 (for k 12 (set x 1)))) " + sets(n-2-(1+10*(1+1+9*(1+1+12*3)))) + "(ret 0))",
			"ifs":             "(fun f () (if 1 (" + sets(1000) + ") ((if 2 (" + sets(700) + ") (" + sets(n-1706) + ")))) (ret 0))",
			"an export":       "(export f () (for i 50 " + sets(70) + ")" + sets(n-2-(1+50*71)) + "(ret 0))",
			"a call":          "(fun g () " + sets(n-4) + "(ret 0)) (fun f () (ret (call g)))",
			"two calls":       "(fun g () " + sets(1980) + "(ret 0)) (fun f () " + sets(n-4-2*1982) + "(ret (add (call g) (call g))))",
			"calls":           "(fun g () " + sets(60) + "(ret 0)) (fun h () (for i 30 (set x (call g))) (ret 0)) (fun f () (set x (call h)) (set y (call g)) " + sets(n-2-2-(1+30*(1+2+62)+2)-2-62) + "(ret 0))",
			"calls within":    "(fun g ((sec a)) " + sets(990) + "(ret 0)) (fun f () " + sets(n-2-993*3) + "(ret (call g (call g (call g 0)))))",
			"a put":           "(secret k 1) (fun g () " + sets(990) + "(ret 0)) (fun f () (put k (open (call g)) (call g)) " + sets(n-2-2-2*993) + "(ret 0))",
			"a loop of calls": "(fun g () " + sets(59) + "(ret 0)) (fun f () (for i 62 (set x (call g))) " + sets(n-2-(1+62*(1+2+61))) + "(ret 0))",
		} {
			t.Run(what, func(t *testing.T) { wantCost(t, s, n) })
		}
	}
}

// TestGreatCosts has sources that cost more than any number holds.
func TestGreatCosts(t *testing.T) {
	loops := func(n int, inner string) string {
		for i := range n {
			inner = fmt.Sprintf("(for i%d 64 %s)", i, inner)
		}
		return inner
	}
	for n := 2; n <= 22; n++ { // 64 to the power of 11 wraps to 4
		wantCost(t, "(fun f () "+loops(n, "")+"(ret 0))", 4001)
		wantCost(t, "(fun f () "+loops(n-1, "(set x 1)")+" (ret 0))", 2+1+64*3+4001*(n-2))
		wantCost(t, "(fun f () "+loops(n-1, "(set x 1)")+loops(22-n, "(set y 1)")+" (ret 0))", 4001)
	}
	for n := 2; n <= 31; n++ {
		for _, c := range []string{"(add (call f%d) (call f%d))", "(sel (call f%d) (call f%d) 1)"} {
			text := "(fun f0 () (ret 0))"
			for i := range n {
				text += fmt.Sprintf("(fun f%d () (for i 64 (for j 64 (for l 64 (set x "+c+")))) (ret 0))", i+1, i, i)
			}
			wantCost(t, text, 4001)
		}
		text := "(fun f0 () (ret 0))" // each twice as dear as the one ahead
		cost := 2
		for i := range n {
			text += fmt.Sprintf("(fun f%d () (ret (add (call f%d) (call f%d))))", i+1, i, i)
			cost = min(4+2*cost, 4001)
		}
		wantCost(t, text, cost)
	}
	// What is too dear is told of each function by itself.
	p := parsed(t, "(fun f () "+loops(22, "")+"(ret 0)) (fun g () (set x (call f)) (ret 0)) (fun h () (ret 1))")
	for f, want := range []int{4001, 4001, 2} {
		if got := sec.Cost(p, f); got != want {
			t.Errorf("P11.2: %d: %d; want %d", f, got, want)
		}
	}
	if wantAsSlow(t, p) != api.Size {
		t.Error("the test is wrong")
	}
}
