package tree_test

import (
	"fmt"
	"math"
	"slices"
	"strings"
	"testing"

	"caponier/api"
	"caponier/tree"
)

// parts are all that a tree has, each where it lies.
type parts struct {
	arrays []*api.Array
	funcs  []*api.Func
	params []*api.Param
	stmts  []*api.Stmt
	exprs  []*api.Expr
}

func partsOf(p *api.Prog) *parts {
	x := &parts{}
	for i := range p.Secrets {
		x.arrays = append(x.arrays, &p.Secrets[i])
	}
	for i := range p.Funcs {
		f := &p.Funcs[i]
		x.funcs = append(x.funcs, f)
		for k := range f.Params {
			x.params = append(x.params, &f.Params[k])
		}
		x.addStmts(f.Body)
	}
	return x
}

func (x *parts) addStmts(l []api.Stmt) {
	for i := range l {
		x.stmts = append(x.stmts, &l[i])
		x.addExprs(l[i].Args)
		x.addStmts(l[i].Then)
		x.addStmts(l[i].Else)
	}
}

func (x *parts) addExprs(l []api.Expr) {
	for i := range l {
		x.exprs = append(x.exprs, &l[i])
		x.addExprs(l[i].Args)
	}
}

// change is one that something is done to a tree.
type change struct {
	what string
	do   func(p *api.Prog)
}

// kinds are some that there are, and some that there are none of.
func kinds() []int {
	return []int{-1, 0, 1, 2, 3, 4, 5, 6, 7, 8, 255, 256, 1 << 32, 1<<32 + 1, math.MaxInt, math.MinInt}
}

// changes are all changes of one part of the full tree by one field.
func changes() []change {
	p := full()
	x := partsOf(&p)
	var l []change
	add := func(what string, do func(p *api.Prog)) { l = append(l, change{what, do}) }
	for i := range x.arrays {
		at := fmt.Sprint("array ", i)
		add(at+": name", func(p *api.Prog) { partsOf(p).arrays[i].Name += "A" })
		add(at+": no name", func(p *api.Prog) { partsOf(p).arrays[i].Name = "" })
		add(at+": another name", func(p *api.Prog) { partsOf(p).arrays[i].Name = "other" })
		for _, n := range []int{-1, 0, 3, 65, 1<<32 + 1} {
			add(at+fmt.Sprint(": length ", n), func(p *api.Prog) { partsOf(p).arrays[i].Len = n })
		}
	}
	for i := range x.funcs {
		at := fmt.Sprint("function ", i)
		add(at+": name", func(p *api.Prog) { partsOf(p).funcs[i].Name += "A" })
		add(at+": no name", func(p *api.Prog) { partsOf(p).funcs[i].Name = "" })
		add(at+": another name", func(p *api.Prog) { partsOf(p).funcs[i].Name = "other" })
		add(at+": out", func(p *api.Prog) { f := partsOf(p).funcs[i]; f.Out = !f.Out })
		add(at+": no parameters", func(p *api.Prog) { partsOf(p).funcs[i].Params = nil })
		add(at+": a parameter more", func(p *api.Prog) { f := partsOf(p).funcs[i]; f.Params = append(f.Params, api.Param{Name: "z"}) })
		add(at+": no statements", func(p *api.Prog) { partsOf(p).funcs[i].Body = []api.Stmt{} })
		add(at+": a statement more", func(p *api.Prog) { f := partsOf(p).funcs[i]; f.Body = append(f.Body, ret(num(1))) })
		add(at+": a wrong one more", func(p *api.Prog) { f := partsOf(p).funcs[i]; f.Body = append(f.Body, api.Stmt{}) })
		add(at+": not there", func(p *api.Prog) { p.Funcs = slices.Delete(p.Funcs, i, i+1) })
		add(at+": twice", func(p *api.Prog) { p.Funcs = append(p.Funcs, p.Funcs[i]) })
	}
	for i := range x.params {
		at := fmt.Sprint("parameter ", i)
		add(at+": name", func(p *api.Prog) { partsOf(p).params[i].Name += "A" })
		add(at+": no name", func(p *api.Prog) { partsOf(p).params[i].Name = "" })
		for _, k := range kinds() {
			add(at+fmt.Sprint(": kind ", k), func(p *api.Prog) { partsOf(p).params[i].Kind = k })
		}
		for _, n := range []int{-1, 0, 1, 63, 65} {
			add(at+fmt.Sprint(": length ", n), func(p *api.Prog) { partsOf(p).params[i].Len = n })
		}
	}
	for i := range x.stmts {
		l = append(l, stmtChanges(i)...)
	}
	for i := range x.exprs {
		l = append(l, exprChanges(i)...)
	}
	return l
}

func stmtChanges(i int) []change {
	var l []change
	add := func(what string, do func(s *api.Stmt)) {
		l = append(l, change{fmt.Sprint("statement ", i, ": ", what), func(p *api.Prog) { do(partsOf(p).stmts[i]) }})
	}
	for _, k := range kinds() {
		add(fmt.Sprint("kind ", k), func(s *api.Stmt) { s.Kind = k })
	}
	for _, n := range []int{-1, 0, 1, 65, 1 << 32} {
		add(fmt.Sprint("number ", n), func(s *api.Stmt) { s.Num = n })
	}
	for _, name := range []string{"", "other", "A", " "} {
		add(fmt.Sprintf("name %q", name), func(s *api.Stmt) { s.Name = name })
	}
	add("no arguments", func(s *api.Stmt) { s.Args = nil })
	add("an argument more", func(s *api.Stmt) { s.Args = append(s.Args, num(1)) })
	add("two more", func(s *api.Stmt) { s.Args = append(s.Args, num(1), vari("x")) })
	add("an argument that is none", func(s *api.Stmt) { s.Args = append(s.Args[:0:0], api.Expr{Kind: api.EVar}) })
	add("no statements", func(s *api.Stmt) { s.Then = []api.Stmt{} })
	add("a statement more", func(s *api.Stmt) { s.Then = append(s.Then, ret(num(1))) })
	add("a wrong one more", func(s *api.Stmt) { s.Then = append(s.Then, api.Stmt{}) })
	add("no others", func(s *api.Stmt) { s.Else = []api.Stmt{} })
	add("another one more", func(s *api.Stmt) { s.Else = append(s.Else, ret(num(1))) })
	add("a wrong other one", func(s *api.Stmt) { s.Else = append(s.Else, api.Stmt{Kind: 9}) })
	return l
}

func exprChanges(i int) []change {
	var l []change
	add := func(what string, do func(e *api.Expr)) {
		l = append(l, change{fmt.Sprint("expression ", i, ": ", what), func(p *api.Prog) { do(partsOf(p).exprs[i]) }})
	}
	for _, k := range kinds() {
		add(fmt.Sprint("kind ", k), func(e *api.Expr) { e.Kind = k })
	}
	for _, n := range []uint64{0, 1, 10, 11, 12, 13, 14, 15, 16, 1 << 32, 1 << 63, math.MaxUint64} {
		add(fmt.Sprint("number ", n), func(e *api.Expr) { e.Num = n })
	}
	for _, name := range []string{"", "other", "A", "1", "add 1"} {
		add(fmt.Sprintf("name %q", name), func(e *api.Expr) { e.Name = name })
	}
	add("no arguments", func(e *api.Expr) { e.Args = []api.Expr{} })
	add("an argument more", func(e *api.Expr) { e.Args = append(e.Args, num(1)) })
	add("an argument fewer", func(e *api.Expr) { e.Args = e.Args[:max(len(e.Args)-1, 0)] })
	add("seven arguments", func(e *api.Expr) { e.Args = slices.Repeat([]api.Expr{num(1)}, 7) })
	add("an argument that is none", func(e *api.Expr) { e.Args = append(e.Args, api.Expr{Kind: 7}) })
	return l
}

// tooLong puts so many statements ahead of a tree that it is longer than a source may be.
func tooLong(p api.Prog) api.Prog {
	first := api.Func{Name: "long", Body: slices.Repeat([]api.Stmt{ret(num(1))}, 2500)}
	p.Funcs = append([]api.Func{first}, p.Funcs...)
	return p
}

// TestChangedTrees: trees that no source has aren't printed, even where they are too long.
func TestChangedTrees(t *testing.T) {
	told := map[api.Code]int{}
	for _, x := range changes() {
		p := full()
		x.do(&p)
		code := slowCode(p)
		told[code]++
		if code == api.OK {
			wantPrinted(t, p, slowPrint(p))
			code = api.Size
		} else {
			wantUnprinted(t, x.what, p, code)
		}
		if s, e := tree.Print(tooLong(p)); e != code || s != "" {
			t.Errorf("P10.2: %s, and too long: %q, %d; want nothing, %d", x.what, short(s), e, code)
		}
	}
	if told[api.OK] < 100 || told[api.Arg] < 500 {
		t.Errorf("the test is wrong: %v", told)
	}
}

// TestTreesOfNoSource: each has something where there is nothing to say, or lacks something.
func TestTreesOfNoSource(t *testing.T) {
	one := []api.Stmt{ret(num(1))}
	for i, s := range []api.Stmt{
		{}, {Kind: 5}, {Kind: -1},
		{Kind: api.SSet, Name: "x"}, {Kind: api.SSet, Args: []api.Expr{num(1)}}, {Kind: api.SSet, Name: "x", Args: []api.Expr{num(1), num(2)}}, {Kind: api.SSet, Name: "x", Num: 1, Args: []api.Expr{num(1)}}, {Kind: api.SSet, Name: "x", Args: []api.Expr{num(1)}, Then: one}, {Kind: api.SSet, Name: "x", Args: []api.Expr{num(1)}, Else: one},
		put("k"), put("k", num(1)), put("k", num(1), num(2), num(3)), put("", num(1), num(2)), {Kind: api.SPut, Name: "k", Num: 2, Args: []api.Expr{num(1), num(2)}}, {Kind: api.SPut, Name: "k", Args: []api.Expr{num(1), num(2)}, Then: one}, {Kind: api.SPut, Name: "k", Args: []api.Expr{num(1), num(2)}, Else: one},
		{Kind: api.SIf}, {Kind: api.SIf, Name: "x", Args: []api.Expr{num(1)}}, {Kind: api.SIf, Num: 1, Args: []api.Expr{num(1)}}, {Kind: api.SIf, Args: []api.Expr{num(1), num(2)}}, {Kind: api.SIf, Then: one, Else: one},
		loop("i", 0), loop("i", 65), loop("i", -1), loop("", 1), {Kind: api.SFor, Name: "i", Num: 1, Args: []api.Expr{num(1)}}, {Kind: api.SFor, Name: "i", Num: 1, Else: one}, {Kind: api.SFor, Name: "i", Num: 1, Then: one, Else: one},
		{Kind: api.SRet}, {Kind: api.SRet, Args: []api.Expr{num(1), num(2)}}, {Kind: api.SRet, Name: "x", Args: []api.Expr{num(1)}}, {Kind: api.SRet, Num: 1, Args: []api.Expr{num(1)}}, {Kind: api.SRet, Args: []api.Expr{num(1)}, Then: one}, {Kind: api.SRet, Args: []api.Expr{num(1)}, Else: one},
	} {
		wantUnprinted(t, fmt.Sprint("statement ", i), body(s), api.Arg)
		wantUnprinted(t, fmt.Sprint("inner statement ", i), body(loop("i", 1, cond(num(1), one, []api.Stmt{ret(num(1)), s}))), api.Arg)
	}
	for i, e := range []api.Expr{
		{Kind: 7}, {Kind: -1},
		{Name: "x"}, {Args: []api.Expr{num(1)}}, {Kind: api.EVar}, {Kind: api.EVar, Name: "x", Num: 1}, {Kind: api.EVar, Name: "x", Args: []api.Expr{num(1)}},
		{Kind: api.EGet, Name: "k"}, get("", num(1)), {Kind: api.EGet, Name: "k", Num: 1, Args: []api.Expr{num(1)}}, {Kind: api.EGet, Name: "k", Args: []api.Expr{num(1), num(2)}},
		two(0), two(0, num(1)), two(0, num(1), num(2), num(3)), two(11, num(1), num(2)), two(12, num(1), num(2)), two(14, num(1), num(2)), two(16, num(1), num(2)), {Kind: api.EOp, Name: "add", Args: []api.Expr{num(1), num(2)}},
		sel(), sel(num(1), num(2)), sel(num(1), num(2), num(3), num(4)), {Kind: api.ESel, Name: "x", Args: []api.Expr{num(1), num(2), num(3)}}, {Kind: api.ESel, Num: 1, Args: []api.Expr{num(1), num(2), num(3)}},
		call(""), call("1"), {Kind: api.ECall, Name: "g", Num: 1}, call("g", slices.Repeat([]api.Expr{num(1)}, 7)...),
		{Kind: api.EOpen}, {Kind: api.EOpen, Args: []api.Expr{num(1), num(2)}}, {Kind: api.EOpen, Name: "x", Args: []api.Expr{num(1)}}, {Kind: api.EOpen, Num: 1, Args: []api.Expr{num(1)}},
	} {
		wantUnprinted(t, fmt.Sprint("expression ", i), body(ret(e)), api.Arg)
		wantUnprinted(t, fmt.Sprint("inner expression ", i), body(set("x", num(1)), loop("i", 1, put("k", num(1), sel(num(1), open(call("g", num(1), e)), num(3))))), api.Arg)
	}
	for i, x := range []api.Param{{}, {Name: "a", Len: 1}, {Name: "a", Kind: api.SecWord, Len: 1}, {Name: "a", Kind: api.Pointer}, {Name: "a", Kind: api.Pointer, Len: 65}, {Name: "a", Kind: 3}, {Name: "a", Kind: 3, Len: 1}, {Name: "a", Kind: -1}, {Kind: api.SecWord}, {Kind: api.Pointer, Len: 1}, {Name: "a", Len: -1}} {
		wantUnprinted(t, fmt.Sprint("parameter ", i), api.Prog{Funcs: []api.Func{{Name: "f", Params: []api.Param{{Name: "b"}, x}}}}, api.Arg)
	}
	wantUnprinted(t, "a function of nothing", api.Prog{Funcs: []api.Func{{}}}, api.Arg)
	wantUnprinted(t, "an array of nothing", api.Prog{Secrets: []api.Array{{}}}, api.Arg)
	wantUnprinted(t, "an array without a name", api.Prog{Secrets: []api.Array{{Len: 1}}}, api.Arg)
	wantUnprinted(t, "an array without words", api.Prog{Secrets: []api.Array{{Name: "k"}}}, api.Arg)
}

// sized is a tree that is printed with so many characters, from 11 on.
func sized(n int) api.Prog {
	n -= len("(fun f ())\n")
	l := slices.Repeat([]api.Stmt{ret(num(1))}, n/8)
	if n%8 > 0 {
		tens := uint64(1)
		for range n % 8 {
			tens *= 10
		}
		l[len(l)/2] = ret(num(tens))
	}
	return body(l...)
}

// TestSize: a text may have just as many characters as a source.
func TestSize(t *testing.T) {
	for n := 19980; n <= 20000; n++ {
		p := sized(n)
		if s, e := tree.Print(p); e != api.OK || len(s) != n || s != slowPrint(p) {
			t.Errorf("P10.2: of %d characters: %d, %d", n, len(s), e)
		} else {
			wantPrinted(t, p, s)
		}
	}
	for n := 20001; n <= 20040; n++ {
		p := sized(n)
		if len(slowPrint(p)) != n {
			t.Fatalf("the test is wrong: %d, %d", n, len(slowPrint(p)))
		}
		wantUnprinted(t, fmt.Sprint(n), p, api.Size)
		wantNoTree(t, slowPrint(p), api.Size)
	}
	wantUnprinted(t, "200000 characters", sized(200000), api.Size)

	// It may be shorter as a source than it is printed.
	s, e := tree.Print(sized(20000))
	if e != api.OK {
		t.Fatalf("P10.2: %d", e)
	}
	tight := strings.ReplaceAll(strings.ReplaceAll(s, ") (", ")("), " (", "(")
	long := strings.Replace(tight, ")\n", "(set x 2)(set y 3))", 1)
	p, e := tree.Parse(long)
	if e != api.OK || len(p.Funcs[0].Body) != len(sized(20000).Funcs[0].Body)+2 {
		t.Fatalf("P10.1: %s, %d", short(p), e)
	}
	wantUnprinted(t, "longer than its source", p, api.Size)

	// Longer by names, by numbers, by items alone.
	var names, numbers, arrays api.Prog
	for i := range 32 {
		arrays.Secrets = append(arrays.Secrets, api.Array{Name: longest, Len: 64})
		names.Funcs = append(names.Funcs, api.Func{Name: longest, Params: slices.Repeat([]api.Param{{Name: longest, Kind: api.SecWord}}, 6), Body: slices.Repeat([]api.Stmt{set(longest, vari(longest))}, i)})
		numbers.Funcs = append(numbers.Funcs, api.Func{Name: "f", Body: slices.Repeat([]api.Stmt{ret(num(math.MaxUint64))}, i+10)})
	}
	wantPrinted(t, arrays, slowPrint(arrays))
	wantUnprinted(t, "names", names, api.Size)
	wantUnprinted(t, "numbers", numbers, api.Size)
}

// TestTooLongAndWrong: what is wrong is told ahead of what is too long, wherever it is.
func TestTooLongAndWrong(t *testing.T) {
	for what, wrong := range map[string]api.Stmt{
		"too deep":       cond(num(1), nil, looped(25)),
		"open too deep":  ret(opened(23)),
		"if too deep":    cond(num(1), chosen(11), nil),
		"a wrong kind":   {Kind: 5},
		"a wrong name":   set("A", num(1)),
		"a wrong number": loop("i", 65),
		"no operation":   ret(two(11, num(1), num(2))),
		"too many":       ret(call("g", slices.Repeat([]api.Expr{num(1)}, 7)...)),
	} {
		wantUnprinted(t, what, body(wrong), api.Arg)
		for _, at := range []int{0, 1, 2000, 2499, 2500} {
			p := tooLong(body(ret(num(1))))
			wantUnprinted(t, "too long", p, api.Size)
			p.Funcs[0].Body = slices.Insert(p.Funcs[0].Body, at, wrong)
			wantUnprinted(t, fmt.Sprint(what, " at ", at), p, api.Arg)
		}
		p := tooLong(body(wrong))
		wantUnprinted(t, what+" behind", p, api.Arg)
	}
	p := tooLong(api.Prog{Funcs: slices.Repeat([]api.Func{{Name: "f"}}, 31)})
	wantUnprinted(t, "32 functions, and too long", p, api.Size)
	p.Funcs = append(p.Funcs, api.Func{Name: "f"})
	wantUnprinted(t, "33 functions, and too long", p, api.Arg)
	p = tooLong(api.Prog{Secrets: slices.Repeat([]api.Array{{Name: "k", Len: 1}}, 33)})
	wantUnprinted(t, "33 secret arrays, and too long", p, api.Arg)
}

// within is a tree that holds one list of expressions in so many places, so often within another: far greater than the room that it takes.
func within(times, deep int, leaf api.Expr) api.Expr {
	for range deep {
		leaf = call("g", slices.Repeat([]api.Expr{leaf}, times)...)
	}
	return leaf
}

// forked is ifs, both lists of each one and the same, so many within each other.
func forked(deep int, l ...api.Stmt) []api.Stmt {
	for range deep {
		l = []api.Stmt{cond(num(1), l, l), cond(vari("x"), l, l)}
	}
	return l
}

// TestSharedLists: trees too great to be gone through place by place are told all the same.
func TestSharedLists(t *testing.T) {
	for _, times := range []int{2, 3, 6} {
		for what, want := range map[string]struct {
			p    api.Prog
			code api.Code
		}{
			"22 deep":               {body(ret(within(times, 22, num(1)))), api.Size},
			"23 deep":               {body(ret(within(times, 23, num(1)))), api.Arg},
			"22 deep, a wrong leaf": {body(ret(within(times, 22, vari("A")))), api.Arg},
			"22 deep, behind":       {tooLong(body(ret(within(times, 22, num(1))), set("x", within(times, 22, num(1))))), api.Size},
			"deeper at its end":     {tooLong(body(ret(within(times, 20, num(1))), ret(sel(num(1), open(num(1)), open(open(within(times, 21, num(1)))))))), api.Arg},
		} {
			if s, e := tree.Print(want.p); e != want.code || s != "" {
				t.Errorf("P10.2: %d, %s: %q, %d", times, what, short(s), e)
			}
		}
		p, q := body(ret(within(times, 22, num(1)))), body(ret(within(times, 22, num(1))))
		if !tree.Same(p, q) || !tree.Same(p, p) || tree.Same(p, body(ret(within(times, 22, num(2))))) || tree.Same(p, body(ret(within(times, 21, num(1))))) {
			t.Errorf("P10.2: %d: Same", times)
		}
	}
	leaf := ret(num(1))
	for deep, code := range map[int]api.Code{10: api.Size, 11: api.Size, 12: api.Arg, 30: api.Arg} {
		if s, e := tree.Print(body(forked(deep, leaf)...)); e != code || s != "" {
			t.Errorf("P10.2: %d forks: %q, %d", deep, short(s), e)
		}
		if s, e := tree.Print(body(forked(deep, leaf, api.Stmt{})...)); e != api.Arg || s != "" {
			t.Errorf("P10.2: %d forks of what is none: %q, %d", deep, short(s), e)
		}
		if !tree.Same(body(forked(deep, leaf)...), body(forked(deep, leaf)...)) || tree.Same(body(forked(deep, leaf)...), body(forked(deep, leaf, leaf)...)) {
			t.Errorf("P10.2: %d forks: Same", deep)
		}
	}
}

// TestListsThatBeginAlike: lists that begin in one place are others, if they aren't equally long.
func TestListsThatBeginAlike(t *testing.T) {
	args := func(last api.Expr) []api.Stmt {
		l := []api.Expr{num(1), num(2), last}
		return []api.Stmt{ret(call("g", l[:2]...)), ret(call("g", l...)), ret(call("g", l[:1]...))}
	}
	stmts := func(last api.Stmt) []api.Stmt {
		l := []api.Stmt{ret(num(1)), ret(num(2)), last}
		return []api.Stmt{loop("i", 1, l[:2]...), loop("i", 1, l...), loop("i", 1, l[:1]...)}
	}
	for i, l := range [][2][]api.Stmt{{args(num(3)), args(vari("A"))}, {stmts(ret(num(3))), stmts(ret(vari("A")))}} {
		wantPrinted(t, body(l[0]...), slowPrint(body(l[0]...)))
		wantUnprinted(t, fmt.Sprint(i), body(l[1]...), api.Arg)
		wantUnprinted(t, fmt.Sprint(i, ", too long"), tooLong(body(l[0]...)), api.Size)
		wantUnprinted(t, fmt.Sprint(i, ", wrong and too long"), tooLong(body(l[1]...)), api.Arg)
		slices.Reverse(l[0])
		slices.Reverse(l[1])
		wantUnprinted(t, fmt.Sprint(i, ", the other way round"), tooLong(body(l[1]...)), api.Arg)
		if tree.Same(body(l[0]...), body(l[1]...)) || !tree.Same(body(l[0]...), clone(body(l[0]...))) {
			t.Errorf("P10.2: %d: Same", i)
		}
		slices.Reverse(l[0])
		slices.Reverse(l[1])
		if tree.Same(body(l[0]...), body(l[1]...)) || !tree.Same(clone(body(l[1]...)), body(l[1]...)) {
			t.Errorf("P10.2: %d, the other way round: Same", i)
		}
	}
}

// endless is an expression that holds itself, so many times behind another.
func endless(around int) api.Expr {
	l := []api.Expr{open(num(1))}
	l[0].Args = l
	for range around {
		l = []api.Expr{{Kind: api.EOpen, Args: l}}
	}
	return l[0]
}

// turning is statements that hold themselves, so many in a round.
func turning(round int, name string) []api.Stmt {
	last := []api.Stmt{loop(name, 2), ret(num(1))}
	l := last
	for range round - 1 {
		l = []api.Stmt{loop(name, 2, l...), ret(num(1))}
	}
	last[0].Then = l
	return l
}

// TestTreesThatHoldThemselves: no source has one, but they may be alike.
func TestTreesThatHoldThemselves(t *testing.T) {
	for around := range 4 {
		p, q := body(ret(endless(around))), body(turning(around+1, "i")...)
		for _, x := range []api.Prog{p, q, tooLong(p), tooLong(q)} {
			if s, e := tree.Print(x); e != api.Arg || s != "" {
				t.Errorf("P10.2: %d around: %q, %d", around, short(s), e)
			}
		}
		for other := range 4 {
			if !tree.Same(p, body(ret(endless(other)))) || !tree.Same(q, body(turning(other+1, "i")...)) {
				t.Errorf("P10.2: %d and %d around: Same", around, other)
			}
			if tree.Same(p, body(ret(opened(other)))) || tree.Same(body(ret(opened(other))), p) || tree.Same(q, body(turning(other+1, "j")...)) || tree.Same(q, p) {
				t.Errorf("P10.2: %d and %d around aren't alike", around, other)
			}
		}
	}
}
