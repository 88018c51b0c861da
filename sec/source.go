package sec

import (
	"maps"

	"caponier/api"
	"caponier/tree"
)

// source is a source's functions, in their order.
type source struct {
	funcs []*function
}

// function is one of a source's, with what its names mean, and what was found out of it.
type function struct {
	api.Func
	arrays  map[string]array
	callees map[string]*function // those that it may call
	stmts   []*api.Stmt
	exprs   []*api.Expr
	secret  *flow
	cost    int
}

// array is one of a function's: whether a pointer, and then at how many words.
type array struct {
	pointer bool
	words   int
}

// look finds out all of a source that is right but for Secret and Size; the code of another one leaves by a panic. One thing is done of all functions ahead of the next, since the first code must be told, wherever it is.
func look(p api.Prog) *source {
	_, code := tree.Print(p)
	want(code == api.OK || code == api.Size, api.Arg)
	oneMeaning(p)
	s := newSource(p)
	s.each((*function).keepDefined)
	s.each((*function).keepTyped)
	s.each((*function).findSecrets)
	s.each((*function).findCost)
	return s
}

// each does something of all functions, in their order, so that those that are called come first.
func (s *source) each(do func(*function)) {
	for _, f := range s.funcs {
		do(f)
	}
}

// names are those that were put down.
type names map[string]struct{}

// put puts down a name, which must be the first of its kind.
func (n names) put(name string) {
	_, ok := n[name]
	want(!ok, api.Twice)
	n[name] = struct{}{}
}

// oneMeaning wants each name to mean one thing alone.
func oneMeaning(p api.Prog) {
	secrets := names{}
	for _, a := range p.Secrets {
		secrets.put(a.Name)
	}
	items := maps.Clone(secrets)
	for _, f := range p.Funcs {
		items.put(f.Name)
		own := maps.Clone(secrets)
		for _, x := range f.Params {
			own.put(x.Name)
		}
	}
}

// newSource is a source of whose functions nothing is found out but what their names mean.
func newSource(p api.Prog) *source {
	s := &source{}
	ahead := map[string]*function{}
	for _, x := range p.Funcs {
		f := newFunction(p.Secrets, x)
		f.callees = maps.Clone(ahead)
		if !x.Out {
			ahead[x.Name] = f
		}
		s.funcs = append(s.funcs, f)
	}
	return s
}

// newFunction is a function that calls none.
func newFunction(secrets []api.Array, x api.Func) *function {
	f := &function{Func: x, arrays: map[string]array{}, secret: newFlow()}
	for _, a := range secrets {
		f.arrays[a.Name] = array{}
	}
	for _, p := range x.Params {
		if p.Kind == api.Pointer {
			f.arrays[p.Name] = array{pointer: true, words: p.Len}
		}
	}
	f.stmts = statements(x.Body)
	f.exprs = expressions(f.stmts)
	return f
}

// all are the elements of lists, and of the lists that these hold. Each comes but once, since a tree that holds one list in many places may be far greater than the room that it takes.
func all[T any](lists [][]T, held func(*T) [][]T) []*T {
	seen := map[*T]struct{}{}
	var found []*T
	for at := 0; at < len(lists); at++ {
		l := lists[at]
		for i := range l {
			x := &l[i]
			if _, ok := seen[x]; ok {
				continue
			}
			seen[x] = struct{}{}
			found = append(found, x)
			lists = append(lists, held(x)...)
		}
	}
	return found
}

// statements are all of lists, and all within these.
func statements(lists ...[]api.Stmt) []*api.Stmt {
	return all(lists, func(s *api.Stmt) [][]api.Stmt { return [][]api.Stmt{s.Then, s.Else} })
}

// expressions are all that statements have themselves, and all within these.
func expressions(stmts []*api.Stmt) []*api.Expr {
	var lists [][]api.Expr
	for _, s := range stmts {
		lists = append(lists, s.Args)
	}
	return all(lists, func(e *api.Expr) [][]api.Expr { return [][]api.Expr{e.Args} })
}
