package tree

import (
	"slices"

	"caponier/api"
)

// matcher holds two trees against each other. Lists wait in rows to be looked at, instead of each being looked at within another, since trees that no source has may be nested deeper than calls may.
type matcher struct {
	stmts *row[api.Stmt]
	exprs *row[api.Expr]
}

// newMatcher is a matcher for which nothing waits.
func newMatcher() *matcher {
	return &matcher{stmts: newRow[api.Stmt](), exprs: newRow[api.Expr]()}
}

// pair is two lists that must be alike.
type pair[T any] struct {
	a, b []T
}

// twins are two lists that are equally long, by where they begin.
type twins[T any] struct {
	a, b *T
	n    int
}

// row is the pairs that wait, and those that ever did.
type row[T any] struct {
	waiting []pair[T]
	known   map[twins[T]]struct{}
}

// newRow is a row without pairs.
func newRow[T any]() *row[T] {
	return &row[T]{known: map[twins[T]]struct{}{}}
}

// put lets two lists wait, and tells whether they are equally long. No two wait again, so that it ends even where a list holds itself.
func (r *row[T]) put(a, b []T) bool {
	if len(a) != len(b) || len(a) == 0 {
		return len(a) == len(b)
	}
	x := twins[T]{a: &a[0], b: &b[0], n: len(a)}
	if _, ok := r.known[x]; !ok {
		r.known[x] = struct{}{}
		r.waiting = append(r.waiting, pair[T]{a: a, b: b})
	}
	return true
}

// alike tells whether all pairs are alike that wait, and those that come to wait meanwhile.
func (r *row[T]) alike(same func(a, b T) bool) bool {
	for len(r.waiting) > 0 {
		last := len(r.waiting) - 1
		x := r.waiting[last]
		r.waiting = r.waiting[:last]
		if !slices.EqualFunc(x.a, x.b, same) {
			return false
		}
	}
	return true
}

// rest tells whether all that waits is alike. Statements come first, since expressions hold none.
func (m *matcher) rest() bool {
	return m.stmts.alike(m.stmt) && m.exprs.alike(m.expr)
}

// function tells whether two functions are alike, but for their statements, which wait.
func (m *matcher) function(a, b api.Func) bool {
	return a.Name == b.Name && a.Out == b.Out && slices.Equal(a.Params, b.Params) && m.stmts.put(a.Body, b.Body)
}

// stmt tells whether two statements are alike, but for their lists, which wait.
func (m *matcher) stmt(a, b api.Stmt) bool {
	return a.Kind == b.Kind && a.Name == b.Name && a.Num == b.Num &&
		m.exprs.put(a.Args, b.Args) && m.stmts.put(a.Then, b.Then) && m.stmts.put(a.Else, b.Else)
}

// expr tells whether two expressions are alike, but for their arguments, which wait.
func (m *matcher) expr(a, b api.Expr) bool {
	return a.Kind == b.Kind && a.Num == b.Num && a.Name == b.Name && m.exprs.put(a.Args, b.Args)
}
