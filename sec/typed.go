package sec

import (
	"slices"

	"caponier/api"
)

// keepDefined wants names to mean something wherever an array, or a function, is named.
func (f *function) keepDefined() {
	for _, s := range f.stmts {
		if s.Kind == api.SPut {
			want(f.isArray(s.Name), api.Undefined)
		}
	}
	for _, e := range f.exprs {
		switch e.Kind {
		case api.EGet:
			want(f.isArray(e.Name), api.Undefined)
		case api.ECall:
			_, ok := f.callees[e.Name]
			want(ok, api.Undefined)
		}
	}
}

// isArray tells whether a name is an array's.
func (f *function) isArray(name string) bool {
	_, ok := f.arrays[name]
	return ok
}

// keepTyped wants everything to be of a kind that fits. Callers see to it that what is named is defined.
func (f *function) keepTyped() {
	for _, x := range f.Params {
		want(!f.Out || x.Kind != api.SecWord, api.Typed)
	}
	f.keepReturn()
	f.keepCounters()
	for _, s := range f.stmts {
		want(!changes(s) || !f.isArray(s.Name), api.Typed)
		f.keepWords(s.Args)
	}
	for _, e := range f.exprs {
		if e.Kind == api.ECall {
			f.keepCall(f.callees[e.Name].Params, e.Args)
		} else {
			f.keepWords(e.Args)
		}
	}
}

// keepReturn wants the last statement to be the only one that returns. It looks at lists, not at each statement once: the last one may have other places, too.
func (f *function) keepReturn() {
	last := len(f.Body) - 1
	want(last >= 0 && returns(f.Body[last]), api.Typed)
	want(!slices.ContainsFunc(f.Body[:last], returns), api.Typed)
	for _, s := range f.stmts {
		want(!slices.ContainsFunc(s.Then, returns) && !slices.ContainsFunc(s.Else, returns), api.Typed)
	}
}

// keepCounters wants loops' variables to be neither set nor counted with within these.
func (f *function) keepCounters() {
	loops := map[string][][]api.Stmt{}
	for _, s := range f.stmts {
		if s.Kind == api.SFor {
			loops[s.Name] = append(loops[s.Name], s.Then)
		}
	}
	for name, lists := range loops {
		for _, s := range statements(lists...) {
			want(!changes(s) || s.Name != name, api.Typed)
		}
	}
}

// keepCall wants arguments to be such as parameters ask for.
func (f *function) keepCall(params []api.Param, args []api.Expr) {
	want(len(args) == len(params), api.Typed)
	for i, x := range params {
		if x.Kind == api.Pointer {
			f.keepPointer(x, args[i])
		} else {
			f.keepWords(args[i : i+1])
		}
	}
}

// keepPointer wants an argument to be a pointer at no fewer words than a parameter.
func (f *function) keepPointer(x api.Param, e api.Expr) {
	a := f.arrays[e.Name]
	want(e.Kind == api.EVar && a.pointer && a.words >= x.Len, api.Typed)
}

// keepWords wants expressions to be words, and no arrays.
func (f *function) keepWords(l []api.Expr) {
	for _, e := range l {
		want(e.Kind != api.EVar || !f.isArray(e.Name), api.Typed)
	}
}

// returns tells whether a statement is a return.
func returns(s api.Stmt) bool {
	return s.Kind == api.SRet
}

// changes tells whether a statement itself changes the variable that it names.
func changes(s *api.Stmt) bool {
	return s.Kind == api.SSet || s.Kind == api.SFor
}
