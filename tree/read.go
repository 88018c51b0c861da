package tree

import (
	"caponier/api"
	"caponier/lex"
)

// parts are those of an item in parentheses that aren't read yet; each is an item itself.
type parts struct {
	left [][]string
}

// inside are the parts of an item, which must be in parentheses.
func inside(item []string) *parts {
	want(len(item) > 1)
	left, _ := lex.Items(item[1 : len(item)-1])
	return &parts{left: left}
}

// next takes the next part.
func (p *parts) next() []string {
	want(len(p.left) > 0)
	item := p.left[0]
	p.left = p.left[1:]
	return item
}

// word takes the next part, which must be a word.
func (p *parts) word() string {
	item := p.next()
	want(len(item) == 1)
	return item[0]
}

// count takes the next part, which must be a number that may count something.
func (p *parts) count() int {
	n, ok := lex.Number(p.word())
	want(ok && n <= maxCount)
	return int(n)
}

// list takes all parts that are left, each read alike.
func list[T any](p *parts, read func([]string) T) []T {
	var l []T
	for len(p.left) > 0 {
		l = append(l, read(p.next()))
	}
	return l
}

// become reads an item in parentheses, to its end, as its first word tells.
func become[T any](kinds map[string]func(*parts) T, item []string) T {
	p := inside(item)
	read, ok := kinds[p.word()]
	want(ok)
	x := read(p)
	want(len(p.left) == 0)
	return x
}

// reader reads items: what each becomes that is in parentheses, by its first word.
type reader struct {
	items  map[string]func(*parts) api.Prog
	params map[string]func(*parts) api.Param
	stmts  map[string]func(*parts) api.Stmt
	exprs  map[string]func(*parts) api.Expr
}

// newReader is a reader with all that items become.
func newReader() *reader {
	r := &reader{stmts: map[string]func(*parts) api.Stmt{}, exprs: map[string]func(*parts) api.Expr{}}
	r.items = map[string]func(*parts) api.Prog{secretWord: r.secret, funWord: r.fun, exportWord: r.export}
	r.params = map[string]func(*parts) api.Param{secWord: r.secretParam, pointerWord: r.pointer}
	for kind, f := range stmtForms {
		r.stmts[f.word] = statement{r: r, kind: kind, form: f}.read
	}
	for _, kind := range [...]int{api.EGet, api.ESel, api.ECall, api.EOpen} {
		f := exprForms[kind]
		r.exprs[f.word] = expression{r: r, kind: kind, named: f.named}.read
	}
	for _, o := range operations {
		r.exprs[o.word] = expression{r: r, kind: api.EOp, num: uint64(o.op)}.read
	}
	return r
}

// source reads a source's words, which must be nested right.
func (r *reader) source(words []string) api.Prog {
	items, _ := lex.Items(words)
	var p api.Prog
	for _, item := range items {
		one := become(r.items, item)
		// No secret array comes behind a function.
		want(len(one.Secrets) == 0 || len(p.Funcs) == 0)
		p.Secrets = append(p.Secrets, one.Secrets...)
		p.Funcs = append(p.Funcs, one.Funcs...)
	}
	want(mayProg(p))
	return p
}

// secret reads a secret array, as a source of just that.
func (r *reader) secret(p *parts) api.Prog {
	var a api.Array
	a.Name = p.word()
	a.Len = p.count()
	want(mayArray(a))
	return api.Prog{Secrets: []api.Array{a}}
}

// fun reads a function for the module alone, as a source of just that.
func (r *reader) fun(p *parts) api.Prog {
	return r.function(p, false)
}

// export reads a function for contexts too, as a source of just that.
func (r *reader) export(p *parts) api.Prog {
	return r.function(p, true)
}

// function reads a function.
func (r *reader) function(p *parts, out bool) api.Prog {
	f := api.Func{Out: out}
	f.Name = p.word()
	f.Params = list(inside(p.next()), r.param)
	f.Body = list(p, r.stmt)
	want(mayFunc(f))
	return api.Prog{Funcs: []api.Func{f}}
}

// param reads a parameter.
func (r *reader) param(item []string) api.Param {
	x := api.Param{Kind: api.PubWord, Name: item[0]}
	if len(item) > 1 {
		x = become(r.params, item)
	}
	want(mayParam(x))
	return x
}

// secretParam reads a parameter that is a secret word.
func (r *reader) secretParam(p *parts) api.Param {
	return api.Param{Kind: api.SecWord, Name: p.word()}
}

// pointer reads a parameter that is a pointer.
func (r *reader) pointer(p *parts) api.Param {
	x := api.Param{Kind: api.Pointer}
	x.Name = p.word()
	x.Len = p.count()
	return x
}

// stmt reads a statement.
func (r *reader) stmt(item []string) api.Stmt {
	s := become(r.stmts, item)
	want(mayStmt(s))
	return s
}

// block reads statements that are in parentheses together.
func (r *reader) block(item []string) []api.Stmt {
	return list(inside(item), r.stmt)
}

// expr reads an expression.
func (r *reader) expr(item []string) api.Expr {
	var e api.Expr
	if len(item) > 1 {
		e = become(r.exprs, item)
	} else {
		e = wordExpr(item[0])
	}
	want(mayExpr(e))
	return e
}

// wordExpr is the expression that is just a word.
func wordExpr(word string) api.Expr {
	if n, ok := lex.Number(word); ok {
		return api.Expr{Kind: api.ENum, Num: n}
	}
	return api.Expr{Kind: api.EVar, Name: word}
}

// statement is a kind of statements.
type statement struct {
	r    *reader
	kind int
	form stmtForm
}

// read reads such a statement.
func (x statement) read(p *parts) api.Stmt {
	s := api.Stmt{Kind: x.kind}
	if x.form.named {
		s.Name = p.word()
	}
	if x.form.counted {
		s.Num = p.count()
	}
	for range x.form.args {
		s.Args = append(s.Args, x.r.expr(p.next()))
	}
	switch x.form.lists {
	case 1:
		s.Then = list(p, x.r.stmt)
	case 2:
		s.Then = x.r.block(p.next())
		s.Else = x.r.block(p.next())
	}
	return s
}

// expression is a kind of expressions, or of those that do an operation.
type expression struct {
	r     *reader
	kind  int
	num   uint64
	named bool
}

// read reads such an expression.
func (x expression) read(p *parts) api.Expr {
	e := api.Expr{Kind: x.kind, Num: x.num}
	if x.named {
		e.Name = p.word()
	}
	e.Args = list(p, x.r.expr)
	return e
}
