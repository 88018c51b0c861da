package tree

import (
	"caponier/api"
	"caponier/lex"
)

// writer gathers what is printed of a tree, and looks whether it is one that a source has. Of what is too long it gathers no more, but goes on looking.
type writer struct {
	text      []byte
	open      int // parentheses
	seenStmts visits[api.Stmt]
	seenExprs visits[api.Expr]
}

// newWriter is a writer that has gathered nothing.
func newWriter() *writer {
	return &writer{seenStmts: visits[api.Stmt]{}, seenExprs: visits[api.Expr]{}}
}

// visits are the lists that were gone through.
type visits[T any] map[visit[T]]struct{}

// visit is a list, by where it begins and how long it is, and how many parentheses were open there.
type visit[T any] struct {
	first *T
	n     int
	open  int
}

// again puts down a list, and tells whether it was put down ahead of that.
func (v visits[T]) again(l []T, open int) bool {
	if len(l) == 0 {
		return false
	}
	x := visit[T]{first: &l[0], n: len(l), open: open}
	_, ok := v[x]
	v[x] = struct{}{}
	return ok
}

// source writes all of a tree.
func (w *writer) source(p api.Prog) string {
	want(mayProg(p))
	for _, a := range p.Secrets {
		w.secret(a)
	}
	for _, f := range p.Funcs {
		w.function(f)
	}
	return string(w.text)
}

// put gathers characters.
func (w *writer) put(s string) {
	if !w.tooLong() {
		w.text = append(w.text, s...)
	}
}

// tooLong tells whether it is known that a source may not be so long.
func (w *writer) tooLong() bool {
	return len(w.text) > api.MaxSource
}

// gap writes a blank, but where an item begins, and behind an opening parenthesis.
func (w *writer) gap() {
	if w.open > 0 && w.text[len(w.text)-1] != '(' {
		w.put(" ")
	}
}

// word writes a word that is no parenthesis.
func (w *writer) word(s string) {
	w.gap()
	w.put(s)
}

// count writes a number of something.
func (w *writer) count(n int) {
	w.word(lex.Digits(uint64(n)))
}

// begin writes an opening parenthesis.
func (w *writer) begin() {
	w.gap()
	w.put("(")
	w.open++
	want(w.open <= api.MaxNest)
}

// end writes a closing parenthesis, and a line's end, if it is an item's.
func (w *writer) end() {
	w.put(")")
	w.open--
	if w.open == 0 {
		w.put("\n")
	}
}

// secret writes a secret array.
func (w *writer) secret(a api.Array) {
	want(mayArray(a))
	w.begin()
	w.word(secretWord)
	w.word(a.Name)
	w.count(a.Len)
	w.end()
}

// function writes a function.
func (w *writer) function(f api.Func) {
	want(mayFunc(f))
	w.begin()
	if f.Out {
		w.word(exportWord)
	} else {
		w.word(funWord)
	}
	w.word(f.Name)
	w.begin()
	for _, x := range f.Params {
		w.param(x)
	}
	w.end()
	w.stmts(f.Body)
	w.end()
}

// param writes a parameter.
func (w *writer) param(x api.Param) {
	want(mayParam(x))
	switch x.Kind {
	case api.PubWord:
		w.word(x.Name)
	case api.SecWord:
		w.begin()
		w.word(secWord)
		w.word(x.Name)
		w.end()
	case api.Pointer:
		w.begin()
		w.word(pointerWord)
		w.word(x.Name)
		w.count(x.Len)
		w.end()
	}
}

// each writes a list. What is too long is only looked at, and that but once for each list and depth, since a tree that holds one list in many places may be far greater than the room that it takes.
func each[T any](w *writer, seen visits[T], l []T, write func(T)) {
	if w.tooLong() && seen.again(l, w.open) {
		return
	}
	for _, x := range l {
		write(x)
	}
}

// stmts writes statements.
func (w *writer) stmts(l []api.Stmt) {
	each(w, w.seenStmts, l, w.stmt)
}

// block writes statements in parentheses together.
func (w *writer) block(l []api.Stmt) {
	w.begin()
	w.stmts(l)
	w.end()
}

// stmt writes a statement.
func (w *writer) stmt(s api.Stmt) {
	want(mayStmt(s))
	f := stmtForms[s.Kind]
	w.begin()
	w.word(f.word)
	if f.named {
		w.word(s.Name)
	}
	if f.counted {
		w.count(s.Num)
	}
	w.exprs(s.Args)
	switch f.lists {
	case 1:
		w.stmts(s.Then)
	case 2:
		w.block(s.Then)
		w.block(s.Else)
	}
	w.end()
}

// exprs writes expressions.
func (w *writer) exprs(l []api.Expr) {
	each(w, w.seenExprs, l, w.expr)
}

// expr writes an expression.
func (w *writer) expr(e api.Expr) {
	want(mayExpr(e))
	switch e.Kind {
	case api.ENum:
		w.word(lex.Digits(e.Num))
	case api.EVar:
		w.word(e.Name)
	case api.EOp:
		word, _ := opWord(e.Num)
		w.nested(word, e)
	default:
		w.nested(exprForms[e.Kind].word, e)
	}
}

// nested writes an expression that is in parentheses, with its word.
func (w *writer) nested(word string, e api.Expr) {
	w.begin()
	w.word(word)
	if e.Name != "" {
		w.word(e.Name)
	}
	w.exprs(e.Args)
	w.end()
}
