package tree_test

import (
	"fmt"
	"math"
	"math/rand"
	"slices"
	"strings"
	"testing"

	"caponier/api"
	"caponier/lex"
	"caponier/tree"
)

const longest = "abcdefghijklmnopqrstuv_9" // 24 characters

// short is something told in few characters, since some sources are great.
func short(x any) string {
	s := fmt.Sprintf("%+v", x)
	if len(s) > 500 {
		return s[:500] + ".."
	}
	return s
}

// wantTree wants a source to have a tree, the test's own too, and that to be printed so that it is parsed to itself.
func wantTree(t *testing.T, s string, want api.Prog) {
	t.Helper()
	if p, e := tree.Parse(s); e != api.OK || !slowSame(p, want) {
		t.Errorf("P10.1: %s: %s, %d; want %s", short(s), short(p), e, short(want))
	}
	if p, e := slowParse(s); e != api.OK || !slowSame(p, want) {
		t.Errorf("%s: the test is wrong: %s, %d", short(s), short(p), e)
	}
	wantPrinted(t, want, slowPrint(want))
}

// wantPrinted wants a tree to be printed so.
func wantPrinted(t *testing.T, p api.Prog, want string) {
	t.Helper()
	if s, e := tree.Print(p); e != api.OK || s != want {
		t.Errorf("P10.2: %s: %q, %d; want %q", short(p), short(s), e, short(want))
	}
	if q, e := tree.Parse(want); e != api.OK || !slowSame(p, q) || !tree.Same(p, q) || !tree.Same(q, p) {
		t.Errorf("P10.3: %q: %s, %d; want %s", short(want), short(q), e, short(p))
	}
	if slowPrint(p) != want || slowCode(p) != api.OK {
		t.Errorf("%s: the test is wrong", short(p))
	}
}

// wantNoTree wants a source to have a code that isn't OK, and nothing beside it.
func wantNoTree(t *testing.T, s string, code api.Code) {
	t.Helper()
	if p, e := tree.Parse(s); e != code || len(p.Secrets) != 0 || len(p.Funcs) != 0 {
		t.Errorf("P10.1: %s: %s, %d; want nothing, %d", short(s), short(p), e, code)
	}
	if _, e := slowParse(s); e != code {
		t.Errorf("%s: the test is wrong: %d", short(s), e)
	}
}

// wantMalformed wants a source, or none, to be no tree's.
func wantMalformed(t *testing.T, s string) {
	t.Helper()
	wantNoTree(t, s, api.Malformed)
}

// wantUnprinted wants a tree not to be printed, but a code.
func wantUnprinted(t *testing.T, what string, p api.Prog, code api.Code) {
	t.Helper()
	if s, e := tree.Print(p); e != code || s != "" {
		t.Errorf("P10.2: %s: %q, %d; want nothing, %d", what, short(s), e, code)
	}
	if e := slowCode(p); e != code {
		t.Errorf("%s: the test is wrong: %d", what, e)
	}
}

// The parts of trees, in few characters.
func num(n uint64) api.Expr     { return api.Expr{Kind: api.ENum, Num: n} }
func vari(name string) api.Expr { return api.Expr{Kind: api.EVar, Name: name} }
func get(name string, e api.Expr) api.Expr {
	return api.Expr{Kind: api.EGet, Name: name, Args: []api.Expr{e}}
}
func two(op uint64, l ...api.Expr) api.Expr    { return api.Expr{Kind: api.EOp, Num: op, Args: l} }
func sel(l ...api.Expr) api.Expr               { return api.Expr{Kind: api.ESel, Args: l} }
func call(name string, l ...api.Expr) api.Expr { return api.Expr{Kind: api.ECall, Name: name, Args: l} }
func open(e api.Expr) api.Expr                 { return api.Expr{Kind: api.EOpen, Args: []api.Expr{e}} }
func set(name string, e api.Expr) api.Stmt {
	return api.Stmt{Kind: api.SSet, Name: name, Args: []api.Expr{e}}
}
func put(name string, l ...api.Expr) api.Stmt { return api.Stmt{Kind: api.SPut, Name: name, Args: l} }
func ret(e api.Expr) api.Stmt                 { return api.Stmt{Kind: api.SRet, Args: []api.Expr{e}} }
func loop(x string, n int, l ...api.Stmt) api.Stmt {
	return api.Stmt{Kind: api.SFor, Name: x, Num: n, Then: l}
}
func cond(e api.Expr, then, other []api.Stmt) api.Stmt {
	return api.Stmt{Kind: api.SIf, Args: []api.Expr{e}, Then: then, Else: other}
}

// body is a source of one function, f, of these statements.
func body(l ...api.Stmt) api.Prog {
	return api.Prog{Funcs: []api.Func{{Name: "f", Body: l}}}
}

// full is a tree with something of every kind.
func full() api.Prog {
	return api.Prog{
		Secrets: []api.Array{{Name: "k", Len: 1}, {Name: longest, Len: 64}, {Name: "secret", Len: 10}},
		Funcs: []api.Func{
			{Name: "nothing"},
			{Name: "inner", Params: []api.Param{{Name: "a"}, {Name: "b", Kind: api.SecWord}, {Name: "p", Kind: api.Pointer, Len: 2}}, Body: []api.Stmt{
				set("c", two(api.Xor, vari("a"), vari("b"))),
				put("p", num(1), get("k", vari("c"))),
				cond(two(api.Sltu, vari("a"), num(0)), []api.Stmt{
					loop("i", 64, set("c", two(api.Mul, vari("c"), num(math.MaxUint64))), cond(vari("i"), nil, []api.Stmt{put("k", vari("i"), num(7))})),
					loop("j", 1),
				}, nil),
				ret(sel(vari("c"), open(vari("b")), call("nothing"))),
			}},
			{Name: "f", Out: true, Params: []api.Param{{Name: "a", Kind: api.Pointer, Len: 64}, {Name: "b"}, {Name: "c"}, {Name: "d"}, {Name: "e"}, {Name: "g", Kind: api.Pointer, Len: 1}}, Body: []api.Stmt{
				ret(call("six", num(1), vari("b"), get("a", num(0)), two(api.Remu, num(3), num(4)), open(num(5)), call("one", sel(num(6), num(7), vari("g"))))),
			}},
		},
	}
}

const fullText = `(secret k 1)
(secret abcdefghijklmnopqrstuv_9 64)
(secret secret 10)
(fun nothing ())
(fun inner (a (sec b) (ptr p 2)) (set c (xor a b)) (put p 1 (get k c)) (if (sltu a 0) ((for i 64 (set c (mul c 18446744073709551615)) (if i () ((put k i 7)))) (for j 1)) ()) (ret (sel c (open b) (call nothing))))
(export f ((ptr a 64) b c d e (ptr g 1)) (ret (call six 1 b (get a 0) (remu 3 4) (open 5) (call one (sel 6 7 g)))))
`

func TestFull(t *testing.T) {
	wantTree(t, fullText, full())
	wantPrinted(t, full(), fullText)
}

func TestItems(t *testing.T) {
	wantTree(t, "", api.Prog{})
	wantPrinted(t, api.Prog{}, "")
	for _, s := range []string{" ", "\n", "\t\r\n", "; nothing", ";(\n;)\n"} {
		wantTree(t, s, api.Prog{})
	}
	wantTree(t, "(secret k 1)", api.Prog{Secrets: []api.Array{{Name: "k", Len: 1}}})
	wantTree(t, "(secret k 1)(secret l 64)(secret k 2)", api.Prog{Secrets: []api.Array{{Name: "k", Len: 1}, {Name: "l", Len: 64}, {Name: "k", Len: 2}}})
	wantTree(t, "(fun f ())", api.Prog{Funcs: []api.Func{{Name: "f"}}})
	wantTree(t, "(export f ())", api.Prog{Funcs: []api.Func{{Name: "f", Out: true}}})
	wantTree(t, "(fun f ())(export g ())(fun f ())", api.Prog{Funcs: []api.Func{{Name: "f"}, {Name: "g", Out: true}, {Name: "f"}}})
	wantTree(t, "(secret k 1)(export f (a) (ret (add a 1)))", api.Prog{
		Secrets: []api.Array{{Name: "k", Len: 1}},
		Funcs:   []api.Func{{Name: "f", Out: true, Params: []api.Param{{Name: "a"}}, Body: []api.Stmt{ret(two(api.Add, vari("a"), num(1)))}}},
	})
	wantPrinted(t, body(), "(fun f ())\n")
	wantPrinted(t, body(ret(num(0))), "(fun f () (ret 0))\n")
	wantPrinted(t, api.Prog{Secrets: []api.Array{{Name: "k", Len: 1}, {Name: "l", Len: 2}}}, "(secret k 1)\n(secret l 2)\n")
}

func TestParams(t *testing.T) {
	all := []api.Param{{Name: "a"}, {Name: "b", Kind: api.SecWord}, {Name: "c", Kind: api.Pointer, Len: 1}, {Name: longest, Kind: api.Pointer, Len: 64}, {Name: "_", Kind: api.SecWord}, {Name: "sec"}}
	text := []string{"a", "(sec b)", "(ptr c 1)", "(ptr " + longest + " 64)", "(sec _)", "sec"}
	for n := range 7 {
		p := api.Prog{Funcs: []api.Func{{Name: "f", Params: all[:n]}}}
		wantTree(t, "(fun f ("+strings.Join(text[:n], " ")+"))", p)
		wantPrinted(t, p, "(fun f ("+strings.Join(text[:n], " ")+"))\n")
	}
	wantTree(t, "(fun f (a a (sec a) (ptr a 2)))", api.Prog{Funcs: []api.Func{{Name: "f", Params: []api.Param{{Name: "a"}, {Name: "a"}, {Name: "a", Kind: api.SecWord}, {Name: "a", Kind: api.Pointer, Len: 2}}}}})
	for n := 1; n <= 64; n++ {
		wantTree(t, fmt.Sprintf("(secret k %d)(fun f ((ptr a %d)))", n, n), api.Prog{
			Secrets: []api.Array{{Name: "k", Len: n}},
			Funcs:   []api.Func{{Name: "f", Params: []api.Param{{Name: "a", Kind: api.Pointer, Len: n}}}},
		})
		wantTree(t, fmt.Sprintf("(fun f () (for i %d))", n), body(loop("i", n)))
	}
}

func TestStatements(t *testing.T) {
	for s, want := range map[string][]api.Stmt{
		"":                              {},
		"(set x 1)":                     {set("x", num(1))},
		"(put k 1 x)":                   {put("k", num(1), vari("x"))},
		"(if 1 () ())":                  {cond(num(1), nil, nil)},
		"(if x ((ret 1)) ())":           {cond(vari("x"), []api.Stmt{ret(num(1))}, nil)},
		"(if x () ((ret 1)))":           {cond(vari("x"), nil, []api.Stmt{ret(num(1))})},
		"(if x ((ret 1)) ((ret 2)))":    {cond(vari("x"), []api.Stmt{ret(num(1))}, []api.Stmt{ret(num(2))})},
		"(for i 3)":                     {loop("i", 3)},
		"(for i 3 (ret i))":             {loop("i", 3, ret(vari("i")))},
		"(for i 3 (ret i) (ret 1))":     {loop("i", 3, ret(vari("i")), ret(num(1)))},
		"(ret 1)":                       {ret(num(1))},
		"(ret 1) (set x 2)":             {ret(num(1)), set("x", num(2))},
		"(for i 2 (for j 3 (for i 4)))": {loop("i", 2, loop("j", 3, loop("i", 4)))},
		"(if a ((if b () ((if c () ()))) (set x y)) ((set y x) (set z z)))": {cond(vari("a"),
			[]api.Stmt{cond(vari("b"), nil, []api.Stmt{cond(vari("c"), nil, nil)}), set("x", vari("y"))},
			[]api.Stmt{set("y", vari("x")), set("z", vari("z"))})},
		"(set set set) (ret ret) (for for 1) (if if () ()) (put put put put)": {
			set("set", vari("set")), ret(vari("ret")), loop("for", 1), cond(vari("if"), nil, nil), put("put", vari("put"), vari("put"))},
	} {
		gap := ""
		if s != "" {
			gap = " "
		}
		wantTree(t, "(fun f ()"+s+")", body(want...))
		wantPrinted(t, body(want...), "(fun f ()"+gap+s+")\n")
	}
}

func TestExpressions(t *testing.T) {
	for s, want := range map[string]api.Expr{
		"0":                    num(0),
		"1":                    num(1),
		"9223372036854775808":  num(1 << 63),
		"18446744073709551615": num(math.MaxUint64),
		"x":                    vari("x"),
		longest:                vari(longest),
		"_":                    vari("_"),
		"add":                  vari("add"),
		"(get k 0)":            get("k", num(0)),
		"(get get (get k x))":  get("get", get("k", vari("x"))),
		"(sel 1 2 3)":          sel(num(1), num(2), num(3)),
		"(sel (sel a b c) sel (sel 0 (sel 1 1 1) x))": sel(sel(vari("a"), vari("b"), vari("c")), vari("sel"), sel(num(0), sel(num(1), num(1), num(1)), vari("x"))),
		"(call g)":             call("g"),
		"(call g 1)":           call("g", num(1)),
		"(call call call)":     call("call", vari("call")),
		"(call add (add 1 2))": call("add", two(api.Add, num(1), num(2))),
		"(call g 1 2 3 4 5 6)": call("g", num(1), num(2), num(3), num(4), num(5), num(6)),
		"(call g a (call g) (call g (open 1)) 0 (get k k) b)": call("g", vari("a"), call("g"), call("g", open(num(1))), num(0), get("k", vari("k")), vari("b")),
		"(open 1)":           open(num(1)),
		"(open (open open))": open(open(vari("open"))),
		"(add (sub 1 a) (mul (shl b 2) (divu 0 0)))": two(0, two(1, num(1), vari("a")), two(10, two(2, vari("b"), num(2)), two(13, num(0), num(0)))),
	} {
		wantTree(t, "(fun f () (ret "+s+"))", body(ret(want)))
		wantPrinted(t, body(ret(want)), "(fun f () (ret "+s+"))\n")
		wantTree(t, "(fun f () (put k "+s+" (add "+s+" "+s+")))", body(put("k", want, two(api.Add, want, want))))
	}
}

// TestOperations: thirteen words are operations, in expressions too.
func TestOperations(t *testing.T) {
	for word, op := range slowOps() {
		if got, ok := tree.Op(word); got != op || !ok {
			t.Errorf("P10.2: Op(%q) is %d, %v", word, got, ok)
		}
		wantTree(t, "(fun f () (ret ("+word+" 1 x)))", body(ret(two(uint64(op), num(1), vari("x")))))
		wantPrinted(t, body(ret(two(uint64(op), num(1), vari("x")))), "(fun f () (ret ("+word+" 1 x)))\n")
	}
	if len(slowOps()) != 13 {
		t.Error("the test is wrong")
	}
	wrong := []string{"", "(", ")", "get", "sel", "call", "open", "set", "x", "0", "1", "sll", "srl", "sra", "mulhu", "div", "rem", "divs", "addi", "not", "eq", "neg", "shl2", "slts", "sltui", "ADD", "Add", "add\x00", "xor\n", "a", "ad", "+"}
	for word := range slowOps() {
		wrong = append(wrong, word+" ", " "+word, word+"_", word+"u", word[1:], word[:len(word)-1], strings.ToUpper(word), strings.ToUpper(word[:1])+word[1:], word+word)
	}
	for _, word := range wrong {
		if _, is := slowOps()[word]; is {
			continue
		}
		if op, ok := tree.Op(word); op != 0 || ok {
			t.Errorf("P10.2: Op(%q) is %d, %v; it is none", word, op, ok)
		}
		if slowNames.MatchString(word) && word != "get" && word != "call" && word != "sel" && word != "open" {
			wantMalformed(t, "(fun f () (ret ("+word+" 1 2)))")
		}
	}
	for op := range uint64(100) {
		known := slices.Contains([]uint64{0, 1, 2, 3, 4, 5, 6, 7, 8, 9, 10, 13, 15}, op)
		for _, far := range []uint64{0, 1 << 32, 1 << 63, math.MaxUint64 - 99} {
			if !known || far > 0 {
				wantUnprinted(t, fmt.Sprint("operation ", op+far), body(ret(two(op+far, num(1), num(2)))), api.Arg)
			}
		}
	}
}

// TestBlanks puts blanks and remarks wherever they may be.
func TestBlanks(t *testing.T) {
	words, _ := lex.Words(fullText)
	for _, blank := range []string{" ", "\n", "\t", "\r\n", "  \n ", ";\n", "; a ( remark\n", " ;)\x00é\n\n"} {
		wantTree(t, blank+strings.Join(words, blank)+blank, full())
	}
	r := rand.New(rand.NewSource(1010))
	for range 50 {
		var b strings.Builder
		for _, w := range words {
			b.WriteString(w + []string{" ", "\n", "\t\r", ";\n", " ;x\n "}[r.Intn(5)])
		}
		wantTree(t, b.String(), full())
	}
	// Where there is a parenthesis, there need be none.
	wantTree(t, "(secret k 1)(export f(a(sec b)(ptr p 2))(if(open a)((ret(add a 1)))())(ret b))", api.Prog{
		Secrets: []api.Array{{Name: "k", Len: 1}},
		Funcs: []api.Func{{Name: "f", Out: true, Params: []api.Param{{Name: "a"}, {Name: "b", Kind: api.SecWord}, {Name: "p", Kind: api.Pointer, Len: 2}},
			Body: []api.Stmt{cond(open(vari("a")), []api.Stmt{ret(two(api.Add, vari("a"), num(1)))}, nil), ret(vari("b"))}}},
	})
	wantMalformed(t, "(secretk 1)")
	wantMalformed(t, "(secret k1)")
	wantMalformed(t, "(secret;k 1)\n")
}

// TestMalformedItems has parts left out, too many, or of another kind.
func TestMalformedItems(t *testing.T) {
	for _, s := range []string{
		"x", "1", "secret", "fun", "()", "(())", "(x)", "(1)", "((secret k 1))", "((fun) f ())", "secret k 1", "fun f ()", "(secret k 1) x", "x (fun f ())",
		"(secret)", "(secret k)", "(secret 1)", "(secret 1 k)", "(secret k 1 1)", "(secret k k)", "(secret 1 1)", "(secret (k) 1)", "(secret k (1))", "(secret k 1 ())", "(secret () 1)", "(secret k ())", "(k 1)",
		"(fun)", "(fun f)", "(fun ())", "(fun f ((ret 1)))", "(fun f (ret 1))", "(fun f a)", "(fun f a (ret 1))", "(fun f 1)", "(fun 1 ())", "(fun (f) ())", "(fun () ())", "(fun () f)", "(fun f () ())", "(fun f () x)", "(fun f () 1)", "(fun f () a (ret 1))", "(fun f () ((ret 1)))", "(fun f () () (ret 1))", "(fun f g ())", "(fun f () (ret 1) x)", "(f ())",
		"(export)", "(export f)", "(export ())", "(export f () ())", "(export 1 ())", "(export f a)", "(export (f) ())", "(exports f ())", "(Fun f ())", "(function f ())", "(arr k 1)",
		"(set x 1)", "(ret 1)", "(add 1 2)", "(sec a)", "(ptr a 1)", "(if 1 () ())", "(for i 1)",
		"(fun f ())(secret k 1)", "(secret k 1)(fun f ())(secret l 1)", "(export f ())(secret k 1)",
		"(fun f () (fun g ()))", "(fun f () (secret k 1))", "(secret (secret k 1) 1)",
	} {
		wantMalformed(t, s)
	}
	// The codes of layer 9.
	for _, s := range []string{"(", ")", "(fun f ()", "(fun f ()))", "(secret k 1)\x00", "(secret k 1)é", "(fun f () (ret \x7f))"} {
		wantMalformed(t, s)
	}
	wantNoTree(t, strings.Repeat("(", 20001), api.Size)
	wantNoTree(t, "x"+strings.Repeat(" ", 20000), api.Size)
	wantMalformed(t, "x"+strings.Repeat(" ", 19999))
	wantTree(t, "(secret k 1)"+strings.Repeat(" ", 19988), api.Prog{Secrets: []api.Array{{Name: "k", Len: 1}}})
	wantNoTree(t, "(secret k 1)"+strings.Repeat(" ", 19989), api.Size)
}

// TestMalformedParams has parameters that are none.
func TestMalformedParams(t *testing.T) {
	for _, s := range []string{
		"1", "0", "()", "(a)", "((a))", "(sec)", "(sec 1)", "(sec a b)", "(sec (a))", "(sec a 1)", "(sec ())", "(sec sec sec)", "(ptr)", "(ptr a)", "(ptr 1)", "(ptr a a)", "(ptr 1 1)", "(ptr 1 a)", "(ptr a 1 1)", "(ptr (a) 1)", "(ptr a (1))", "(ptr () 1)", "(ptr a ())",
		"(pub a)", "(word a)", "(a 1)", "(1 a)", "(add a 1)", "(set a 1)", "(secret a 1)", "(array a 1)", "((sec a))", "((sec) a)", "a 1", "1 a", "(sec a) (ptr b)", "A", "a-b", "é",
		"a b c d e f g", "(sec a) (sec b) (sec c) (sec d) (sec e) (sec f) (sec g)", "(ptr a 1) b (sec c) d e f g", "a b c d e f g h",
	} {
		wantMalformed(t, "(fun f ("+s+"))")
		wantMalformed(t, "(export f ("+s+") (ret 1))")
	}
}

// TestMalformedStatements has statements that are none.
func TestMalformedStatements(t *testing.T) {
	for _, s := range []string{
		"x", "1", "()", "((set x 1))", "(1)", "(x)", "(x 1)", "((set) x 1)", "(let x 1)", "(sets x 1)", "(Set x 1)", "(while x)", "(add 1 2)", "(call g)", "(open x)", "(get k 1)", "(fun f ())", "(sec x)",
		"(set)", "(set x)", "(set 1)", "(set 1 2)", "(set 1 x)", "(set x 1 2)", "(set (x) 1)", "(set x (1))", "(set x ())", "(set () 1)", "(set x (set y 1))", "(set (get k 0) 1)", "(set x y z)",
		"(put)", "(put k)", "(put k 1)", "(put 1 2)", "(put 1 2 3)", "(put k 1 2 3)", "(put (k) 1 2)", "(put k () 1)", "(put k 1 ())", "(put k (1) 2)", "(put k (ret 1) 2)", "(put 1 k 2)", "(put () 1 1)",
		"(if)", "(if x)", "(if x ())", "(if () ())", "(if () () ())", "(if x () () ())", "(if x y ())", "(if x () y)", "(if x 1 2)", "(if x (ret 1) ())", "(if x () (ret 1))", "(if x (set y 1) (set y 2))", "(if x ((ret 1)))", "(if x ((ret 1) x) ())", "(if x (()) ())", "(if x () (()))", "(if x (1) ())", "(if x () (y))", "(if (x) () ())", "(if (set x 1) () ())", "(if x (((ret 1))) ())", "(if x () () y)", "(if y x () ())", "(if () () x)",
		"(for)", "(for i)", "(for 1)", "(for i i)", "(for 1 1)", "(for 1 i)", "(for i (ret 1))", "(for (i) 1)", "(for i (1))", "(for i 1 x)", "(for i 1 1)", "(for i 1 ())", "(for i 1 ((ret 1)))", "(for i 1 (ret 1) x)", "(for i 1 1 (ret 1))", "(for i () 1)", "(for () 1)", "(for i j 1)",
		"(ret)", "(ret 1 2)", "(ret ())", "(ret (1))", "(ret (x))", "(ret (ret 1))", "(ret x y)", "(ret (set x 1))", "(ret 1 ())", "(return 1)",
	} {
		wantMalformed(t, "(fun f () "+s+")")
		wantMalformed(t, "(fun f () (ret 1) "+s+" (set x 1))")
		wantMalformed(t, "(export f () (for i 2 (if i ("+s+") ())))")
		wantMalformed(t, "(export f () (for i 2 (if i () ("+s+"))))")
	}
}

// TestMalformedExpressions has expressions that are none.
func TestMalformedExpressions(t *testing.T) {
	for _, s := range []string{
		"()", "(1)", "(x)", "((add 1 2))", "((add) 1 2)", "(add)", "(add 1)", "(add 1 2 3)", "(add () 1)", "(add 1 ())", "(add (1) 2)", "(1 add 2)", "(1 2 add)", "(add 1 (add 2))", "(sub 1)", "(remu 1 2 3)", "(add add)",
		"(get)", "(get k)", "(get 1)", "(get 1 2)", "(get 1 k)", "(get k 1 2)", "(get (k) 1)", "(get k ())", "(get () 1)", "(get (get k 1) 2)", "(get k (ret 1))",
		"(sel)", "(sel 1)", "(sel 1 2)", "(sel 1 2 3 4)", "(sel () 1 2)", "(sel 1 () 2)", "(sel 1 2 ())", "(sel 1 (2) 3)", "(sel x y z 1)",
		"(call)", "(call 1)", "(call 1 2)", "(call (g))", "(call () 1)", "(call g ())", "(call g (1))", "(call g 1 2 3 4 5 6 7)", "(call g a b c d e f g h)", "(call g (set x 1))", "(call (call g) 1)",
		"(open)", "(open 1 2)", "(open ())", "(open (1))", "(open x y)", "(open (ret 1))",
		"(set x 1)", "(ret 1)", "(if 1 2 3)", "(for i 1)", "(put k 1 2)", "(sec x)", "(ptr x 1)", "(secret k 1)", "(fun f ())", "(foo 1 2)", "(ADD 1 2)", "(sll 1 2)", "(mulhu 1 2)", "(div 1 2)", "(rem 1 2)", "(not 1)", "(eq 1 2)",
		"01", "00", "-1", "+1", "1x", "0x1", "1.5", "1_0", "18446744073709551616", "99999999999999999999", "100000000000000000000", "000000000000000000001",
		"A", "aB", "a-b", "a.b", "é", "x!", "'x", "\"x\"", "9a", longest + "x", strings.Repeat("a", 100), "#", "-", "+", "=", "%", "a,b",
	} {
		for _, around := range []string{"(set x %s)", "(put k %s 1)", "(put k 1 %s)", "(if %s () ())", "(ret %s)", "(ret (add %s 1))", "(ret (add 1 %s))", "(ret (get k %s))", "(ret (sel %s 1 1))", "(ret (sel 1 1 %s))", "(ret (call g %s))", "(ret (call g 1 2 3 4 5 %s))", "(ret (open %s))", "(for i 1 (if (open (open %s)) () ()))"} {
			wantMalformed(t, "(fun f () "+strings.ReplaceAll(around, "%s", s)+")")
		}
	}
}

// TestNumbersOfThings: from 1 to 64, and written as numbers are.
func TestNumbersOfThings(t *testing.T) {
	for _, n := range []string{"", "0", "65", "66", "100", "128", "256", "00", "01", "001", "064", "010", "-1", "+1", "1.", "0x1", "k", "()", "(1)", "1 1", "1 ()", "4294967297", "9223372036854775808", "9223372036854775809", "18446744073709551615", "18446744073709551616", "18446744073709551617", "36893488147419103233", "1a", "6 4"} {
		wantMalformed(t, "(secret k "+n+")")
		wantMalformed(t, "(fun f ((ptr k "+n+")))")
		wantMalformed(t, "(fun f () (for k "+n+"))")
		if n != "1 1" { // a loop's number, and then no statement
			wantMalformed(t, "(fun f () (for k "+n+" (ret 1)))")
		}
	}
	for _, n := range []int{0, -1, 65, 66, 128, 1 << 32, 1<<32 + 1, 1<<62 + 5, math.MaxInt, math.MinInt, math.MinInt + 1} {
		what := fmt.Sprint("so many: ", n)
		wantUnprinted(t, what, api.Prog{Secrets: []api.Array{{Name: "k", Len: n}}}, api.Arg)
		wantUnprinted(t, what, api.Prog{Funcs: []api.Func{{Name: "f", Params: []api.Param{{Name: "k", Kind: api.Pointer, Len: n}}}}}, api.Arg)
		wantUnprinted(t, what, body(loop("k", n)), api.Arg)
	}
}

// TestNames puts names, and what is none, wherever a name must be.
func TestNames(t *testing.T) {
	places := []string{
		"(secret %s 1)", "(fun %s ())", "(export %s ())", "(fun f (%s))", "(fun f (a %s b))", "(fun f ((sec %s)))", "(fun f ((ptr %s 1)))",
		"(fun f () (set %s 1))", "(fun f () (put %s 1 2))", "(fun f () (for %s 1))", "(fun f () (ret (get %s 1)))", "(fun f () (ret (call %s)))", "(fun f () (ret (call %s 1 2)))",
	}
	for _, s := range places {
		for _, name := range []string{"a", "_", "z9", "__", "secret", "fun", "export", "sec", "ptr", "set", "put", "if", "for", "ret", "get", "add", "sel", "call", "open", longest, strings.Repeat("_", 24)} {
			if p, e := tree.Parse(strings.ReplaceAll(s, "%s", name)); e != api.OK {
				t.Errorf("P10.1: %s: %d", strings.ReplaceAll(s, "%s", name), e)
			} else {
				wantTree(t, strings.ReplaceAll(s, "%s", name), p)
			}
		}
		if s != "(fun f (%s))" && s != "(fun f (a %s b))" {
			wantMalformed(t, strings.ReplaceAll(s, "%s", ""))
		}
		for _, name := range []string{"1", "0", "9a", "12", "A", "aA", "a-", "-a", "a.b", "a!", "'", "18446744073709551615", longest + "a", strings.Repeat("x", 25), strings.Repeat("x", 1000), "(a)", "()", "((a))", "é"} {
			wantMalformed(t, strings.ReplaceAll(s, "%s", name))
		}
	}
	for _, name := range []string{"", "1", "9a", "A", "a b", "a(", "(", ")", "a)", " a", "a ", "a\n", "\n", ";", "a;", "a-b", longest + "a", strings.Repeat("x", 1<<20), "é", "\x00", "a\x00", "\xff", "18446744073709551615"} {
		for what, p := range named(name) {
			wantUnprinted(t, what+fmt.Sprintf(" %.30q", name), p, api.Arg)
		}
	}
	for what, p := range named(longest) {
		if s, e := tree.Print(p); e != api.OK || !strings.Contains(s, longest) {
			t.Errorf("P10.2: %s: %q, %d", what, s, e)
		}
	}
}

// named are trees that have this name, one wherever there must be some.
func named(name string) map[string]api.Prog {
	return map[string]api.Prog{
		"secret":  {Secrets: []api.Array{{Name: name, Len: 1}}},
		"fun":     {Funcs: []api.Func{{Name: name}}},
		"export":  {Funcs: []api.Func{{Name: name, Out: true}}},
		"word":    {Funcs: []api.Func{{Name: "f", Params: []api.Param{{Name: name}}}}},
		"sec":     {Funcs: []api.Func{{Name: "f", Params: []api.Param{{Name: name, Kind: api.SecWord}}}}},
		"pointer": {Funcs: []api.Func{{Name: "f", Params: []api.Param{{Name: name, Kind: api.Pointer, Len: 1}}}}},
		"set":     body(set(name, num(1))),
		"put":     body(put(name, num(1), num(1))),
		"for":     body(loop(name, 1)),
		"var":     body(ret(vari(name))),
		"get":     body(ret(get(name, num(1)))),
		"call":    body(ret(call(name))),
		"inner":   body(cond(num(1), nil, []api.Stmt{loop("i", 1, ret(open(call("g", num(1), vari(name)))))})),
	}
}

// TestHowMany: 32 secret arrays and 32 functions, six parameters and arguments.
func TestHowMany(t *testing.T) {
	for _, n := range []int{31, 32, 33, 34, 64, 300} {
		for _, m := range []int{0, 1, 32, 33} {
			var p, q api.Prog
			for i := range n {
				p.Secrets = append(p.Secrets, api.Array{Name: fmt.Sprint("k", i), Len: 1})
				q.Funcs = append(q.Funcs, api.Func{Name: fmt.Sprint("f", i), Out: i%2 == 0})
			}
			for range m {
				p.Funcs = append(p.Funcs, api.Func{Name: "f"})
				q.Secrets = append(q.Secrets, api.Array{Name: "k", Len: 2})
			}
			for _, x := range []api.Prog{p, q} {
				if n <= 32 && m <= 32 {
					wantTree(t, slowPrint(x), x)
				} else {
					wantMalformed(t, slowPrint(x))
					wantUnprinted(t, fmt.Sprint(n, " and ", m), x, api.Arg)
				}
			}
		}
	}
	for n := range 10 {
		p := api.Prog{Funcs: []api.Func{{Name: "f", Params: slices.Repeat([]api.Param{{Name: "a"}}, n)}}}
		q := body(ret(call("g", slices.Repeat([]api.Expr{num(7)}, n)...)))
		for _, x := range []api.Prog{p, q} {
			if n <= 6 {
				wantTree(t, slowPrint(x), x)
			} else {
				wantMalformed(t, slowPrint(x))
				wantUnprinted(t, fmt.Sprint(n, " parameters or arguments"), x, api.Arg)
			}
		}
	}
}

// opened is an expression in so many parentheses.
func opened(n int) api.Expr {
	e := num(1)
	for range n {
		e = open(e)
	}
	return e
}

// chosen is so many ifs, each in the one ahead, on either side in turn, with a statement in the last one.
func chosen(n int, l ...api.Stmt) []api.Stmt {
	for i := range n {
		if i%2 == 0 {
			l = []api.Stmt{cond(num(1), l, nil)}
		} else {
			l = []api.Stmt{cond(num(1), nil, l)}
		}
	}
	return l
}

// looped is so many loops, each in the one ahead.
func looped(n int, l ...api.Stmt) []api.Stmt {
	for range n {
		l = []api.Stmt{loop("i", 2, l...)}
	}
	return l
}

// TestDepth: words nested 24 deep, and deeper; most is how often each may be nested.
func TestDepth(t *testing.T) {
	for _, x := range []struct {
		what string
		most int
		tree func(n int) api.Prog
	}{
		{"ret", 22, func(n int) api.Prog { return body(ret(opened(n))) }},
		{"put", 22, func(n int) api.Prog { return body(put("k", num(1), opened(n))) }},
		{"if", 22, func(n int) api.Prog { return body(cond(opened(n), nil, nil)) }},
		{"call", 21, func(n int) api.Prog { return body(ret(call("g", num(1), num(2), num(3), opened(n)))) }},
		{"for", 23, func(n int) api.Prog { return body(looped(n)...) }},
		{"set in for", 22, func(n int) api.Prog { return body(looped(n, set("x", num(1)))...) }},
		{"open in for", 21, func(n int) api.Prog { return body(looped(n, ret(open(num(1))))...) }},
		// An if has two more open, even if it holds nothing, since its lists are in parentheses.
		{"empty if", 11, func(n int) api.Prog { return body(chosen(n)...) }},
		{"ret in if", 11, func(n int) api.Prog { return body(chosen(n, ret(num(1)))...) }},
		{"open in if", 10, func(n int) api.Prog { return body(chosen(n, ret(open(num(1))))...) }},
		{"if in for", 11, func(n int) api.Prog { return body(looped(1, chosen(n)...)...) }},
		{"for in if in for", 10, func(n int) api.Prog { return body(looped(1, chosen(n, loop("i", 1))...)...) }},
	} {
		for n := range 30 {
			if p := x.tree(n); n <= x.most {
				wantTree(t, slowPrint(p), p)
			} else {
				wantMalformed(t, slowPrint(p))
				wantUnprinted(t, fmt.Sprint(x.what, " ", n), p, api.Arg)
			}
		}
	}
	for _, n := range []int{1000, 100000} {
		p := body(ret(opened(n)))
		if s, e := tree.Print(p); e != api.Arg || s != "" {
			t.Errorf("P10.2: %d deep: %q, %d", n, short(s), e)
		}
		if q := body(ret(opened(n))); !tree.Same(p, q) || tree.Same(p, body(ret(opened(n+1)))) {
			t.Errorf("P10.2: %d deep: Same", n)
		}
	}
}
