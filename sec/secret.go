package sec

import (
	"slices"

	"caponier/api"
)

// spot is what may be secret in a function: a variable, by its name, or an expression, by where it lies.
type spot struct {
	name string
	expr *api.Expr
}

// flow is what is secret in a function, and where it goes from there.
type flow struct {
	found map[spot]struct{}
	fresh []spot // found, but where they go wasn't looked at
	ways  map[spot][]spot
}

// newFlow is a flow without anything secret.
func newFlow() *flow {
	return &flow{found: map[spot]struct{}{}, ways: map[spot][]spot{}}
}

// goes puts down that something is secret, if another is.
func (w *flow) goes(from, to spot) {
	w.ways[from] = append(w.ways[from], to)
}

// find puts down that something is secret.
func (w *flow) find(x spot) {
	if _, ok := w.found[x]; !ok {
		w.found[x] = struct{}{}
		w.fresh = append(w.fresh, x)
	}
}

// spread finds all to which something secret goes. Each begin looks only at what the one ahead of it found, so that a long chain of variables costs no more than it is long.
func (w *flow) spread() {
begin:
	fresh := w.fresh
	w.fresh = nil
	for _, from := range fresh {
		for _, to := range w.ways[from] {
			w.find(to)
		}
	}
	if len(w.fresh) > 0 {
		goto begin
	}
}

// any tells whether one of some expressions is secret.
func (w *flow) any(l []api.Expr) bool {
	for i := range l {
		if _, ok := w.found[spot{expr: &l[i]}]; ok {
			return true
		}
	}
	return false
}

// variables are those that are secret, rising.
func (w *flow) variables() []string {
	var l []string
	for x := range w.found {
		if x.expr == nil {
			l = append(l, x.name)
		}
	}
	slices.Sort(l)
	return l
}

// findSecrets finds all that is secret in a function. Callers see to it that this was done of those that it calls.
func (f *function) findSecrets() {
	for _, x := range f.Params {
		if x.Kind == api.SecWord {
			f.secret.find(spot{name: x.Name})
		}
	}
	for _, s := range f.stmts {
		if s.Kind == api.SSet {
			f.secret.goes(spot{expr: &s.Args[0]}, spot{name: s.Name})
		}
	}
	for _, e := range f.exprs {
		f.findOrigin(e)
	}
	f.secret.spread()
}

// findOrigin puts down whether an expression is secret, or of what it hangs. What is opened hangs of nothing.
func (f *function) findOrigin(e *api.Expr) {
	here := spot{expr: e}
	switch e.Kind {
	case api.EVar:
		f.secret.goes(spot{name: e.Name}, here)
	case api.EGet:
		if !f.arrays[e.Name].pointer {
			f.secret.find(here)
		}
	case api.EOp, api.ESel:
		for i := range e.Args {
			f.secret.goes(spot{expr: &e.Args[i]}, here)
		}
	case api.ECall:
		if f.callees[e.Name].returnsSecret() {
			f.secret.find(here)
		}
	}
}

// returnsSecret tells whether a function returns something secret.
func (f *function) returnsSecret() bool {
	return f.secret.any(f.Body[len(f.Body)-1].Args)
}

// keepSecrets wants nothing secret to be where none may be.
func (f *function) keepSecrets() {
	want(!f.Out || !f.returnsSecret(), api.Secret)
	for _, s := range f.stmts {
		switch s.Kind {
		case api.SIf:
			f.keepPublic(s.Args)
		case api.SPut:
			f.keepPublic(s.Args[:1])
			if f.arrays[s.Name].pointer {
				f.keepPublic(s.Args[1:])
			}
		}
	}
	for _, e := range f.exprs {
		f.keepArgs(e)
	}
}

// keepArgs wants an expression's arguments not to be secret where they may not be.
func (f *function) keepArgs(e *api.Expr) {
	switch e.Kind {
	case api.EGet:
		f.keepPublic(e.Args)
	case api.EOp:
		if e.Num == api.Divu || e.Num == api.Remu {
			f.keepPublic(e.Args)
		}
	case api.ECall:
		for i, x := range f.callees[e.Name].Params {
			if x.Kind == api.PubWord {
				f.keepPublic(e.Args[i : i+1])
			}
		}
	}
}

// keepPublic wants no expression to be secret.
func (f *function) keepPublic(l []api.Expr) {
	want(!f.secret.any(l), api.Secret)
}
