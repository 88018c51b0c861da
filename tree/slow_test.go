package tree_test

import (
	"fmt"
	"math/big"
	"math/rand"
	"regexp"
	"slices"
	"strings"

	"caponier/api"
	"caponier/lex"
)

// The tests' own, slow way of doing what the chapter says, for all that the layer is held against, and sources and trees that are made at random.

var (
	slowNames  = regexp.MustCompile(`^[a-z_][a-z0-9_]{0,23}$`)
	slowCounts = regexp.MustCompile(`^([1-9]|[1-5][0-9]|6[0-4])$`)
	slowDigits = regexp.MustCompile(`^(0|[1-9][0-9]*)$`)
)

// slowOps are the operations that an expression may do.
func slowOps() map[string]int {
	return map[string]int{
		"add": 0, "sub": 1, "shl": 2, "slt": 3, "sltu": 4, "xor": 5, "shr": 6, "sar": 7, "or": 8, "and": 9, "mul": 10, "divu": 13, "remu": 15,
	}
}

// slowNumber is the number that a word is, if it is one.
func slowNumber(w string) (uint64, bool) {
	if !slowDigits.MatchString(w) {
		return 0, false
	}
	n, _ := new(big.Int).SetString(w, 10)
	return n.Uint64(), n.IsUint64()
}

// node is a word, or what is in parentheses.
type node struct {
	word string
	in   []node
}

// list tells whether it is in parentheses.
func (n node) list() bool { return n.word == "" }

// name tells whether it is a name.
func (n node) name() bool { return slowNames.MatchString(n.word) }

// count is the number of something that it is.
func (n node) count() (int, bool) {
	x := 0
	fmt.Sscan(n.word, &x)
	return x, slowCounts.MatchString(n.word)
}

// of tells whether it is in parentheses, begins with a word, and has from least to most parts behind that.
func (n node) of(word string, least, most int) bool {
	return n.list() && len(n.in) > 0 && n.in[0].word == word && least < len(n.in) && len(n.in) <= most+1
}

// nodes gathers words as nodes, up to a closing parenthesis; what is left begins with that.
func nodes(words []string) ([]node, []string) {
	var l []node
	for len(words) > 0 && words[0] != ")" {
		if words[0] != "(" {
			l, words = append(l, node{word: words[0]}), words[1:]
			continue
		}
		in, left := nodes(words[1:])
		l, words = append(l, node{in: in}), left[1:]
	}
	return l, words
}

// slowParse looks at each item by its form.
func slowParse(s string) (api.Prog, api.Code) {
	words, code := lex.Words(s)
	if code != api.OK {
		return api.Prog{}, code
	}
	items, _ := nodes(words)
	var p api.Prog
	for _, n := range items {
		switch {
		case n.of("secret", 2, 2) && len(p.Funcs) == 0 && n.in[1].name():
			x, ok := n.in[2].count()
			if !ok {
				return api.Prog{}, api.Malformed
			}
			p.Secrets = append(p.Secrets, api.Array{Name: n.in[1].word, Len: x})
		case n.of("fun", 2, 1<<30), n.of("export", 2, 1<<30):
			f, ok := slowFunc(n)
			if !ok {
				return api.Prog{}, api.Malformed
			}
			p.Funcs = append(p.Funcs, f)
		default:
			return api.Prog{}, api.Malformed
		}
	}
	if len(p.Secrets) > 32 || len(p.Funcs) > 32 {
		return api.Prog{}, api.Malformed
	}
	return p, api.OK
}

func slowFunc(n node) (api.Func, bool) {
	f := api.Func{Name: n.in[1].word, Out: n.in[0].word == "export"}
	if !n.in[1].name() || !n.in[2].list() || len(n.in[2].in) > 6 {
		return f, false
	}
	for _, x := range n.in[2].in {
		switch {
		case x.name():
			f.Params = append(f.Params, api.Param{Name: x.word, Kind: 0})
		case x.of("sec", 1, 1) && x.in[1].name():
			f.Params = append(f.Params, api.Param{Name: x.in[1].word, Kind: 1})
		case x.of("ptr", 2, 2) && x.in[1].name():
			n, ok := x.in[2].count()
			if !ok {
				return f, false
			}
			f.Params = append(f.Params, api.Param{Name: x.in[1].word, Kind: 2, Len: n})
		default:
			return f, false
		}
	}
	var ok bool
	f.Body, ok = slowStmts(n.in[3:])
	return f, ok
}

func slowStmts(l []node) ([]api.Stmt, bool) {
	var all []api.Stmt
	for _, n := range l {
		s, ok := slowStmt(n)
		if !ok {
			return nil, false
		}
		all = append(all, s)
	}
	return all, true
}

func slowStmt(n node) (s api.Stmt, ok bool) {
	args, then, other := true, true, true
	switch {
	case n.of("set", 2, 2) && n.in[1].name():
		s.Kind, s.Name = 0, n.in[1].word
		s.Args, args = slowExprs(n.in[2:])
	case n.of("put", 3, 3) && n.in[1].name():
		s.Kind, s.Name = 1, n.in[1].word
		s.Args, args = slowExprs(n.in[2:])
	case n.of("if", 3, 3) && n.in[2].list() && n.in[3].list():
		s.Kind = 2
		s.Args, args = slowExprs(n.in[1:2])
		s.Then, then = slowStmts(n.in[2].in)
		s.Else, other = slowStmts(n.in[3].in)
	case n.of("for", 2, 1<<30) && n.in[1].name():
		s.Kind, s.Name = 3, n.in[1].word
		s.Num, args = n.in[2].count()
		s.Then, then = slowStmts(n.in[3:])
	case n.of("ret", 1, 1):
		s.Kind = 4
		s.Args, args = slowExprs(n.in[1:])
	default:
		return s, false
	}
	return s, args && then && other
}

func slowExprs(l []node) ([]api.Expr, bool) {
	var all []api.Expr
	for _, n := range l {
		e, ok := slowExpr(n)
		if !ok {
			return nil, false
		}
		all = append(all, e)
	}
	return all, true
}

func slowExpr(n node) (e api.Expr, ok bool) {
	if x, is := slowNumber(n.word); is {
		return api.Expr{Kind: 0, Num: x}, true
	}
	for word, op := range slowOps() {
		if n.of(word, 2, 2) {
			e = api.Expr{Kind: 3, Num: uint64(op)}
			e.Args, ok = slowExprs(n.in[1:])
			return e, ok
		}
	}
	switch {
	case n.name():
		return api.Expr{Kind: 1, Name: n.word}, true
	case n.of("get", 2, 2) && n.in[1].name():
		e.Kind, e.Name = 2, n.in[1].word
		e.Args, ok = slowExprs(n.in[2:])
	case n.of("sel", 3, 3):
		e.Kind = 4
		e.Args, ok = slowExprs(n.in[1:])
	case n.of("call", 1, 7) && n.in[1].name():
		e.Kind, e.Name = 5, n.in[1].word
		e.Args, ok = slowExprs(n.in[2:])
	case n.of("open", 1, 1):
		e.Kind = 6
		e.Args, ok = slowExprs(n.in[1:])
	}
	return e, ok
}

// slowPrint puts all words together with blanks, and takes those away that are too many. A tree that may not be is printed as something, too.
func slowPrint(p api.Prog) string {
	var b strings.Builder
	for _, a := range p.Secrets {
		fmt.Fprintf(&b, "( secret %s %d )\n", a.Name, a.Len)
	}
	for _, f := range p.Funcs {
		word := map[bool]string{false: "fun", true: "export"}[f.Out]
		fmt.Fprintf(&b, "( %s %s (", word, f.Name)
		for _, x := range f.Params {
			switch x.Kind {
			case 0:
				fmt.Fprintf(&b, " %s", x.Name)
			case 1:
				fmt.Fprintf(&b, " ( sec %s )", x.Name)
			default:
				fmt.Fprintf(&b, " ( ptr %s %d )", x.Name, x.Len)
			}
		}
		fmt.Fprintf(&b, " )%s )\n", told(f.Body))
	}
	s := strings.ReplaceAll(b.String(), "( ", "(")
	return strings.ReplaceAll(s, " )", ")")
}

// told is statements with a blank ahead of each word.
func told(l []api.Stmt) string {
	var b strings.Builder
	for _, x := range l {
		switch x.Kind {
		case 0:
			b.WriteString(" ( set " + x.Name + reckoned(x.Args) + " )")
		case 1:
			b.WriteString(" ( put " + x.Name + reckoned(x.Args) + " )")
		case 2:
			b.WriteString(" ( if" + reckoned(x.Args) + " (" + told(x.Then) + " ) (" + told(x.Else) + " ) )")
		case 3:
			b.WriteString(fmt.Sprint(" ( for ", x.Name, " ", x.Num, told(x.Then), " )"))
		default:
			b.WriteString(" ( ret" + reckoned(x.Args) + " )")
		}
	}
	return b.String()
}

// reckoned is expressions with a blank ahead of each word.
func reckoned(l []api.Expr) string {
	var b strings.Builder
	for _, x := range l {
		args := reckoned(x.Args)
		switch x.Kind {
		case 0:
			b.WriteString(fmt.Sprint(" ", x.Num))
		case 1:
			b.WriteString(" " + x.Name)
		case 2:
			b.WriteString(" ( get " + x.Name + args + " )")
		case 3:
			for word, op := range slowOps() {
				if uint64(op) == x.Num {
					b.WriteString(" ( " + word + args + " )")
				}
			}
		case 4:
			b.WriteString(" ( sel" + args + " )")
		case 5:
			b.WriteString(" ( call " + x.Name + args + " )")
		default:
			b.WriteString(" ( open" + args + " )")
		}
	}
	return b.String()
}

// slowMay tells whether there is a source of such a tree.
func slowMay(p api.Prog) bool {
	for _, a := range p.Secrets {
		if !slowNames.MatchString(a.Name) || a.Len < 1 || a.Len > 64 {
			return false
		}
	}
	for _, f := range p.Funcs {
		if !slowNames.MatchString(f.Name) || len(f.Params) > 6 || !slowMayStmts(f.Body, 2) {
			return false
		}
		for _, x := range f.Params {
			if !slowNames.MatchString(x.Name) || x.Kind < 0 || x.Kind > 2 || x.Kind < 2 && x.Len != 0 || x.Kind == 2 && (x.Len < 1 || x.Len > 64) {
				return false
			}
		}
	}
	return len(p.Secrets) <= 32 && len(p.Funcs) <= 32
}

// slowMayStmts tells whether there may be such statements, with so many parentheses open in each.
func slowMayStmts(l []api.Stmt, open int) bool {
	for _, s := range l {
		named := slowNames.MatchString(s.Name)
		empty := len(s.Then) == 0 && len(s.Else) == 0
		ok := false
		switch s.Kind {
		case 0:
			ok = named && s.Num == 0 && len(s.Args) == 1 && empty
		case 1:
			ok = named && s.Num == 0 && len(s.Args) == 2 && empty
		case 2:
			ok = s.Name == "" && s.Num == 0 && len(s.Args) == 1 && open < 24 && slowMayStmts(s.Then, open+2) && slowMayStmts(s.Else, open+2)
		case 3:
			ok = named && 1 <= s.Num && s.Num <= 64 && len(s.Args) == 0 && len(s.Else) == 0 && slowMayStmts(s.Then, open+1)
		case 4:
			ok = s.Name == "" && s.Num == 0 && len(s.Args) == 1 && empty
		}
		if !ok || open > 24 || !slowMayExprs(s.Args, open+1) {
			return false
		}
	}
	return true
}

// slowMayExprs tells whether there may be such expressions, with so many parentheses open in each that has some.
func slowMayExprs(l []api.Expr, open int) bool {
	for _, e := range l {
		named := slowNames.MatchString(e.Name)
		n := len(e.Args)
		ok := false
		switch e.Kind {
		case 0:
			ok = e.Name == "" && n == 0
		case 1:
			ok = named && e.Num == 0 && n == 0
		case 2:
			ok = named && e.Num == 0 && n == 1
		case 3:
			for _, op := range slowOps() {
				ok = ok || uint64(op) == e.Num && e.Name == "" && n == 2
			}
		case 4:
			ok = e.Name == "" && e.Num == 0 && n == 3
		case 5:
			ok = named && e.Num == 0 && n <= 6
		case 6:
			ok = e.Name == "" && e.Num == 0 && n == 1
		}
		if !ok || e.Kind > 1 && open > 24 || !slowMayExprs(e.Args, open+1) {
			return false
		}
	}
	return true
}

// slowCode is what Print answers beside the text.
func slowCode(p api.Prog) api.Code {
	if !slowMay(p) {
		return api.Arg
	}
	if len(slowPrint(p)) > 20000 {
		return api.Size
	}
	return api.OK
}

// slowSame tells whether two trees are alike, field by field.
func slowSame(a, b api.Prog) bool {
	return slices.Equal(a.Secrets, b.Secrets) && slices.EqualFunc(a.Funcs, b.Funcs, func(x, y api.Func) bool {
		return x.Name == y.Name && x.Out == y.Out && slices.Equal(x.Params, y.Params) && slowSameStmts(x.Body, y.Body)
	})
}

func slowSameStmts(a, b []api.Stmt) bool {
	return slices.EqualFunc(a, b, func(x, y api.Stmt) bool {
		return x.Kind == y.Kind && x.Name == y.Name && x.Num == y.Num &&
			slowSameExprs(x.Args, y.Args) && slowSameStmts(x.Then, y.Then) && slowSameStmts(x.Else, y.Else)
	})
}

func slowSameExprs(a, b []api.Expr) bool {
	return slices.EqualFunc(a, b, func(x, y api.Expr) bool {
		return x.Kind == y.Kind && x.Num == y.Num && x.Name == y.Name && slowSameExprs(x.Args, y.Args)
	})
}

// clone is a tree that shares nothing with another.
func clone(p api.Prog) api.Prog {
	q := api.Prog{Secrets: slices.Clone(p.Secrets), Funcs: slices.Clone(p.Funcs)}
	for i, f := range q.Funcs {
		q.Funcs[i].Params = slices.Clone(f.Params)
		q.Funcs[i].Body = cloneStmts(f.Body)
	}
	return q
}

func cloneStmts(l []api.Stmt) []api.Stmt {
	l = slices.Clone(l)
	for i, s := range l {
		l[i].Args, l[i].Then, l[i].Else = cloneExprs(s.Args), cloneStmts(s.Then), cloneStmts(s.Else)
	}
	return l
}

func cloneExprs(l []api.Expr) []api.Expr {
	l = slices.Clone(l)
	for i, e := range l {
		l[i].Args = cloneExprs(e.Args)
	}
	return l
}

// maker makes trees at random that sources have.
type maker struct {
	*rand.Rand
}

func (m maker) name() string {
	const first, all = "abcdefghijklmnopqrstuvwxyz_", "abcdefghijklmnopqrstuvwxyz_0123456789"
	if m.Intn(3) == 0 { // a word that stands elsewhere too
		return []string{"set", "put", "if", "for", "ret", "get", "add", "sel", "call", "open", "sec", "ptr", "fun", "export", "secret", "x"}[m.Intn(16)]
	}
	b := []byte{first[m.Intn(len(first))]}
	for range m.Intn(24) {
		b = append(b, all[m.Intn(len(all))])
	}
	return string(b)
}

func (m maker) count() int {
	return []int{1, 2, 63, 64, 1 + m.Intn(64)}[m.Intn(5)]
}

func (m maker) prog() api.Prog {
	var p api.Prog
	for range m.Intn(4) {
		p.Secrets = append(p.Secrets, api.Array{Name: m.name(), Len: m.count()})
	}
	for range m.Intn(4) {
		f := api.Func{Name: m.name(), Out: m.Intn(2) == 0, Body: m.stmts(1 + m.Intn(6))}
		for range m.Intn(7) {
			x := api.Param{Name: m.name(), Kind: m.Intn(3)}
			if x.Kind == 2 {
				x.Len = m.count()
			}
			f.Params = append(f.Params, x)
		}
		p.Funcs = append(p.Funcs, f)
	}
	return p
}

// stmts are some, so many within each other.
func (m maker) stmts(deep int) []api.Stmt {
	var l []api.Stmt
	for range m.Intn(4) {
		s := api.Stmt{Kind: m.Intn(5)}
		switch s.Kind {
		case 0:
			s.Name, s.Args = m.name(), m.exprs(1, deep)
		case 1:
			s.Name, s.Args = m.name(), m.exprs(2, deep)
		case 2:
			if s.Args = m.exprs(1, deep); deep > 0 {
				s.Then, s.Else = m.stmts(deep-1), m.stmts(deep-1)
			}
		case 3:
			if s.Name, s.Num = m.name(), m.count(); deep > 0 {
				s.Then = m.stmts(deep - 1)
			}
		case 4:
			s.Args = m.exprs(1, deep)
		}
		l = append(l, s)
	}
	return l
}

// exprs are n expressions, so many within each other.
func (m maker) exprs(n, deep int) []api.Expr {
	var l []api.Expr
	for range n {
		e := api.Expr{Kind: m.Intn(7)}
		if deep == 0 {
			e.Kind = m.Intn(2)
		}
		switch e.Kind {
		case 0:
			e.Num = m.Uint64() >> m.Intn(65)
		case 1:
			e.Name = m.name()
		case 2:
			e.Name, e.Args = m.name(), m.exprs(1, deep-1)
		case 3:
			e.Num, e.Args = []uint64{0, 1, 2, 3, 4, 5, 6, 7, 8, 9, 10, 13, 15}[m.Intn(13)], m.exprs(2, deep-1)
		case 4:
			e.Args = m.exprs(3, deep-1)
		case 5:
			e.Name, e.Args = m.name(), m.exprs(m.Intn(7), deep-1)
		case 6:
			e.Args = m.exprs(1, deep-1)
		}
		l = append(l, e)
	}
	return l
}
