package sem

import "caponier/api"

// all does statements.
func (f *frame) all(l []api.Stmt) {
	for _, s := range l {
		f.stmts[s.Kind](s)
	}
}

// set sets a variable.
func (f *frame) set(s api.Stmt) {
	f.vars[s.Name] = f.value(s.Args[0])
}

// put sets an element. It is looked for last, behind the value.
func (f *frame) put(s api.Stmt) {
	args := f.values(s.Args)
	*f.element(s.Name, args[0]) = args[1]
}

// either does one of two lists.
func (f *frame) either(s api.Stmt) {
	if f.value(s.Args[0]) != 0 {
		f.all(s.Then)
	} else {
		f.all(s.Else)
	}
}

// loop does statements so many times.
func (f *frame) loop(s api.Stmt) {
	for i := range s.Num {
		f.vars[s.Name] = uint64(i)
		f.all(s.Then)
	}
}

// ret returns. It is a function's last statement.
func (f *frame) ret(s api.Stmt) {
	f.returned = f.value(s.Args[0])
}
