package tree_test

import (
	"fmt"
	"math/rand"
	"slices"
	"strings"
	"testing"

	"caponier/api"
	"caponier/lex"
	"caponier/tree"
)

// TestTreesAtRandom prints trees, and parses them again.
func TestTreesAtRandom(t *testing.T) {
	m := maker{rand.New(rand.NewSource(1001))}
	codes := map[api.Code]int{}
	for i := range 1500 {
		p := m.prog()
		stmts := partsOf(&p).stmts
		if i%5 == 0 && len(stmts) > 0 { // deeper, or longer
			s := stmts[m.Intn(len(stmts))]
			*s = looped(1+m.Intn(24), *s)[0]
		}
		for k := 0; i%5 == 1 && k < len(p.Funcs); k++ {
			p.Funcs[k].Body = slices.Repeat(p.Funcs[k].Body, m.Intn(40))
		}
		code := slowCode(p)
		codes[code]++
		if code == api.OK {
			wantPrinted(t, p, slowPrint(p))
			continue
		}
		wantUnprinted(t, short(p), p, code)
	}
	if codes[api.OK] < 500 || codes[api.Size] < 20 || codes[api.Arg] < 20 {
		t.Errorf("the test is wrong: %v", codes)
	}
}

// wantAsSlow wants a source to be parsed as the tests do, and what is parsed to be printed so that it is parsed to itself.
func wantAsSlow(t *testing.T, s string) api.Code {
	t.Helper()
	p, e := tree.Parse(s)
	want, code := slowParse(s)
	if e != code || !slowSame(p, want) {
		t.Errorf("P10.1: %q: %s, %d; want %s, %d", short(s), short(p), e, short(want), code)
	}
	if e != api.OK {
		return e
	}
	text, e := tree.Print(p)
	if e == api.Size && len(slowPrint(p)) > 20000 {
		return api.OK
	}
	q, again := tree.Parse(text)
	if e != api.OK || again != api.OK || !slowSame(p, q) || !tree.Same(p, q) {
		t.Errorf("P10.3: %q becomes %q: %s, %d, %d; want %s", short(s), short(text), short(q), e, again, short(p))
	}
	if twice, e := tree.Print(q); e != api.OK || twice != text {
		t.Errorf("P10.3: %q is printed as %q", short(text), short(twice))
	}
	return api.OK
}

// written is items with a blank ahead of each word.
func written(l []node) string {
	var b strings.Builder
	for _, n := range l {
		if n.list() {
			b.WriteString(" (" + written(n.in) + " )")
		} else {
			b.WriteString(" " + n.word)
		}
	}
	return b.String()
}

// edited are all rows of items that come of one when one part of it, however deep it lies, is left out, twice there, swapped with the next, put in parentheses, taken out of them, or replaced.
func edited(l []node, other []node) [][]node {
	var all [][]node
	for i, n := range l {
		behind := l[i+1:]
		put := func(x ...node) { all = append(all, slices.Concat(l[:i], x, behind)) }
		put()
		put(n, n)
		put(node{in: []node{n}})
		if i > 0 {
			all = append(all, slices.Concat(l[:i-1], []node{n, l[i-1]}, behind))
		}
		for _, o := range other {
			put(o)
			put(n, o)
		}
		if n.list() {
			put(n.in...)
			for _, x := range edited(n.in, other) {
				put(node{in: x})
			}
		}
	}
	return all
}

// TestEditedSources has each part of a source that has everything be otherwise.
func TestEditedSources(t *testing.T) {
	words, _ := lex.Words("(secret k 4)(fun f (a (sec b) (ptr p 2)) (set c (sel a 0 (open b))) (put p 1 c))(export g () (if (get k 1) ((for i 3 (ret i))) ()) (ret (call f 1 (xor 2 3))))")
	items, _ := nodes(words)
	words, _ = lex.Words("0 1 64 65 x A add set () (x) (1) (secret k 1) (fun f ()) (sec x) (ptr x 1) (set x 1) (if 1 () ()) (for i 1) (ret 1) (get k 1) (or 1 2) (call g) (open 1)")
	other, _ := nodes(words)
	codes := map[api.Code]int{}
	for _, l := range edited(items, other) {
		codes[wantAsSlow(t, written(l))]++
	}
	if codes[api.OK] < 300 || codes[api.Malformed] < 2000 {
		t.Errorf("the test is wrong: %v", codes)
	}
}

// TestWordsAtRandom changes words of sources that are made at random.
func TestWordsAtRandom(t *testing.T) {
	r := rand.New(rand.NewSource(1003))
	m := maker{r}
	some := []string{"(", ")", "()", "0", "1", "64", "65", "x", "set", "put", "if", "for", "ret", "get", "sub", "sel", "call", "open", "sec", "ptr", "fun", "export", "secret", "18446744073709551616", "A", longest + "x"}
	codes := map[api.Code]int{}
	for range 4000 {
		p := m.prog()
		words, e := lex.Words(slowPrint(p))
		if e != api.OK || len(words) == 0 {
			continue
		}
		i := r.Intn(len(words))
		switch r.Intn(5) {
		case 0:
			words = slices.Delete(words, i, i+1)
		case 1:
			words = slices.Insert(words, i, some[r.Intn(len(some))])
		case 2:
			words[i] = some[r.Intn(len(some))]
		case 3:
			k := r.Intn(len(words))
			words[i], words[k] = words[k], words[i]
		}
		codes[wantAsSlow(t, strings.Join(words, []string{" ", "\n", ";\n"}[r.Intn(3)]))]++
	}
	if codes[api.OK] < 800 || codes[api.Malformed] < 800 {
		t.Errorf("the test is wrong: %v", codes)
	}
}

// TestBytesAtRandom parses whatever bytes there are.
func TestBytesAtRandom(t *testing.T) {
	r := rand.New(rand.NewSource(1004))
	pieces := []string{"(", ")", "(", ")", " ", "\n", ";", "fun", "f", "(fun f ()", "(ret 1)", "(secret k 1)", "1", "\x00", "é", "(set x ", "(if x ", "()"}
	for range 20000 {
		var b strings.Builder
		for range r.Intn(30) {
			b.WriteString(pieces[r.Intn(len(pieces))])
		}
		wantAsSlow(t, b.String())
	}
}

// TestSame holds each changed tree against the full one, and against itself.
func TestSame(t *testing.T) {
	unlike := 0
	for _, x := range changes() {
		p, q := full(), full()
		x.do(&p)
		x.do(&q)
		want := slowSame(p, full())
		if tree.Same(p, full()) != want || tree.Same(full(), p) != want {
			t.Errorf("P10.2: %s: Same isn't %v", x.what, want)
		}
		if !tree.Same(p, q) || !tree.Same(p, clone(p)) {
			t.Errorf("P10.2: %s: alike in both, but not the same", x.what)
		}
		if !want {
			unlike++
		}
	}
	if unlike < 500 {
		t.Errorf("the test is wrong: %d", unlike)
	}
	if !tree.Same(api.Prog{}, api.Prog{}) || tree.Same(api.Prog{}, full()) || tree.Same(full(), api.Prog{}) || !tree.Same(full(), full()) {
		t.Error("P10.2: Same of whole trees")
	}
	m := maker{rand.New(rand.NewSource(1005))}
	for range 500 {
		p, q := m.prog(), m.prog()
		if tree.Same(p, q) != slowSame(p, q) || !tree.Same(p, clone(p)) {
			t.Errorf("P10.2: Same of %s and %s", short(p), short(q))
		}
	}
}

// TestNilAndEmptyAreAlike: rule 2 of the document.
func TestNilAndEmptyAreAlike(t *testing.T) {
	a := api.Prog{Funcs: []api.Func{{Name: "f"}, {Name: "g", Body: []api.Stmt{cond(call("f"), nil, nil), loop("i", 1)}}}}
	b := api.Prog{Secrets: []api.Array{}, Funcs: []api.Func{{Name: "f", Params: []api.Param{}, Body: []api.Stmt{}}, {Name: "g", Params: []api.Param{}, Body: []api.Stmt{
		{Kind: api.SIf, Args: []api.Expr{{Kind: api.ECall, Name: "f", Args: []api.Expr{}}}, Then: []api.Stmt{}, Else: []api.Stmt{}},
		{Kind: api.SFor, Name: "i", Num: 1, Args: []api.Expr{}, Then: []api.Stmt{}, Else: []api.Stmt{}},
	}}}}
	if !tree.Same(a, b) || !tree.Same(b, a) || !tree.Same(api.Prog{}, api.Prog{Secrets: []api.Array{}, Funcs: []api.Func{}}) {
		t.Error("P10.2: nil and empty lists aren't alike")
	}
	x, e := tree.Print(a)
	y, f := tree.Print(b)
	if x != y || e != api.OK || f != api.OK {
		t.Errorf("P10.2: %q, %d; %q, %d", x, e, y, f)
	}
	b.Funcs[1].Body[0].Args[0].Args = []api.Expr{num(1)}
	if tree.Same(a, b) || tree.Same(b, a) {
		t.Error("P10.2: an argument more is alike")
	}
}

// room is a list with spare room that holds something.
func room[T any](l []T, spare T) []T {
	return append(slices.Clone(l), spare)[:len(l)]
}

// roomy is the full tree, its lists with spare room.
func roomy() api.Prog {
	p := full()
	p.Secrets, p.Funcs = room(p.Secrets, api.Array{Name: "spare"}), room(p.Funcs, api.Func{Name: "spare"})
	for i, f := range p.Funcs {
		p.Funcs[i].Params, p.Funcs[i].Body = room(f.Params, api.Param{Name: "spare"}), roomyStmts(f.Body)
	}
	return p
}

func roomyStmts(l []api.Stmt) []api.Stmt {
	l = room(l, loop("spare", 1))
	for i, s := range l {
		l[i].Args, l[i].Then, l[i].Else = roomyExprs(s.Args), roomyStmts(s.Then), roomyStmts(s.Else)
	}
	return l
}

func roomyExprs(l []api.Expr) []api.Expr {
	l = room(l, vari("spare"))
	for i, e := range l {
		l[i].Args = roomyExprs(e.Args)
	}
	return l
}

// whole is a tree with all the spare room of its lists.
func whole(p api.Prog) api.Prog {
	p.Secrets, p.Funcs = p.Secrets[:len(p.Secrets)+1], slices.Clone(p.Funcs[:len(p.Funcs)+1])
	for i := range p.Funcs[:len(p.Funcs)-1] {
		f := &p.Funcs[i]
		f.Params, f.Body = f.Params[:len(f.Params)+1], wholeStmts(f.Body)
	}
	return p
}

func wholeStmts(l []api.Stmt) []api.Stmt {
	l = slices.Clone(l[:len(l)+1])
	for i := range l[:len(l)-1] {
		l[i].Args, l[i].Then, l[i].Else = wholeExprs(l[i].Args), wholeStmts(l[i].Then), wholeStmts(l[i].Else)
	}
	return l
}

func wholeExprs(l []api.Expr) []api.Expr {
	l = slices.Clone(l[:len(l)+1])
	for i := range l[:len(l)-1] {
		l[i].Args = wholeExprs(l[i].Args)
	}
	return l
}

// TestTreesAreNeitherChangedNorKept: rule 3 of the document.
func TestTreesAreNeitherChangedNorKept(t *testing.T) {
	p, q := roomy(), roomy()
	s, e := tree.Print(p)
	if e != api.OK || s != fullText || !tree.Same(p, q) || !tree.Same(p, full()) {
		t.Fatalf("P10.2: %q, %d", s, e)
	}
	tree.Print(tooLong(p))
	tree.Same(p, tooLong(q))
	if !slowSame(whole(p), whole(roomy())) || !slowSame(whole(q), whole(roomy())) {
		t.Error("rule 3: a tree that was handed in is changed")
	}
	for _, s := range partsOf(&p).stmts {
		s.Name = "over"
	}
	if again, e := tree.Print(q); e != api.OK || again != fullText || s != fullText || tree.Same(p, q) {
		t.Errorf("rule 3: a tree is kept: %q, %d", again, e)
	}
}

// TestListsOfOneAnswer: no two lists of one answer share their memory, not even by their spare room.
func TestListsOfOneAnswer(t *testing.T) {
	p, e := tree.Parse(fullText)
	if e != api.OK {
		t.Fatalf("P10.1: %d", e)
	}
	x := partsOf(&p)
	for _, s := range x.stmts {
		over(s.Args, vari("over"))
		over(s.Then, loop("over", 1))
		over(s.Else, loop("over", 1))
	}
	for _, e := range x.exprs {
		over(e.Args, vari("over"))
	}
	for _, f := range x.funcs {
		over(f.Params, api.Param{Name: "over"})
		over(f.Body, loop("over", 1))
	}
	over(p.Secrets, api.Array{Name: "over"})
	over(p.Funcs, api.Func{Name: "over"})
	if !slowSame(p, full()) {
		t.Errorf("rule 3: lists of one answer share their memory: %s", short(p))
	}
	for _, s := range x.stmts {
		clear(s.Args)
	}
	if q, e := tree.Parse(fullText); e != api.OK || !slowSame(q, full()) {
		t.Errorf("rule 3: two answers share their memory: %s, %d", short(q), e)
	}
}

// over writes over a list's spare room.
func over[T any](l []T, x T) {
	for room := l[len(l):cap(l)]; len(room) > 0; room = room[1:] {
		room[0] = x
	}
}

// TestCallsHangOnNothingElse asks the same, with wrong calls between.
func TestCallsHangOnNothingElse(t *testing.T) {
	for i, x := range changes() {
		p := full()
		x.do(&p)
		tree.Print(p)
		tree.Print(tooLong(p))
		tree.Same(p, full())
		tree.Parse(slowPrint(p))
		tree.Parse(fullText[:i%len(fullText)])
		tree.Op(x.what)
		if s, e := tree.Print(full()); e != api.OK || s != fullText {
			t.Fatalf("rule 5: behind %s: %q, %d", x.what, s, e)
		}
		if q, e := tree.Parse(fullText); e != api.OK || !slowSame(q, full()) {
			t.Fatalf("rule 5: behind %s: %s, %d", x.what, short(q), e)
		}
	}
	for range 3 { // nor on how often it was asked
		for word, op := range slowOps() {
			if got, ok := tree.Op(word); got != op || !ok {
				t.Errorf("rule 5: Op(%q) is %d, %v", word, got, ok)
			}
		}
	}
}

// TestExample is the chapter's.
func TestExample(t *testing.T) {
	p, e := tree.Parse("(secret k 1)(export f (a) (ret (add a 1)))")
	if s, code := tree.Print(p); e != api.OK || code != api.OK || s != "(secret k 1)\n(export f (a) (ret (add a 1)))\n" {
		t.Errorf("P10.2: %q, %d, %d", s, e, code)
	}
	if told := fmt.Sprint(p); told != "{[{k 1}] [{f true [{a 0 0}] [{4  0 [{3 0  [{1 0 a []} {0 1  []}]}] [] []}]}]}" {
		t.Errorf("P10.1: %s", told)
	}
}
