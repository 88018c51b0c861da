package ir

import "caponier/api"

// writer gathers the lines of a function of a right source.
type writer struct {
	words  map[string]int // of secret arrays, and of those at which pointers point
	places map[string]int // the registers of variables and pointers
	lines  []api.Line
	regs   int
	labels uint64
}

// newWriter is a writer of a function whose parameters have their registers.
func newWriter(secrets []api.Array, f api.Func) *writer {
	w := &writer{words: map[string]int{}, places: map[string]int{}}
	for _, a := range secrets {
		w.words[a.Name] = a.Len
	}
	for _, x := range f.Params {
		w.places[x.Name] = w.register()
		if x.Kind == api.Pointer {
			w.words[x.Name] = x.Len
		}
	}
	return w
}

// routine is all of a function. Its variables come ahead, since nothing is to be in them at first but 0, on whatever way it goes.
func (w *writer) routine(f api.Func) api.Routine {
	w.meetStmts(f.Body)
	w.stmts(f.Body)
	return api.Routine{Name: f.Name, Params: len(f.Params), Regs: w.regs, Lines: w.lines}
}

// put gathers lines.
func (w *writer) put(l ...api.Line) {
	w.lines = append(w.lines, l...)
}

// register is a new one.
func (w *writer) register() int {
	w.regs++
	return w.regs
}

// into puts a line that sets a new register, and tells which.
func (w *writer) into(x api.Line) int {
	x.D = w.register()
	w.put(x)
	return x.D
}

// constant puts a number into a new register.
func (w *writer) constant(n uint64) int {
	return w.into(api.Line{Op: api.LConst, Num: n})
}

// two puts what an operation does of two registers into a new one.
func (w *writer) two(op uint64, a, b int) int {
	return w.into(api.Line{Op: api.LTwo, A: a, B: b, Num: op})
}

// label is the number of a new one. Callers ask for it where they name it first, for labels count in that order.
func (w *writer) label() uint64 {
	w.labels++
	return w.labels
}

// meetStmts gives variables their registers, in the order in which statements are read.
func (w *writer) meetStmts(l []api.Stmt) {
	for _, s := range l {
		w.meetExprs(s.Args)
		if s.Kind == api.SSet || s.Kind == api.SFor {
			w.meet(s.Name)
		}
		w.meetStmts(s.Then)
		w.meetStmts(s.Else)
	}
}

// meetExprs gives the variables in expressions their registers.
func (w *writer) meetExprs(l []api.Expr) {
	for _, e := range l {
		if e.Kind == api.EVar {
			w.meet(e.Name)
		}
		w.meetExprs(e.Args)
	}
}

// meet gives a variable its register, in which there is 0, if it has none.
func (w *writer) meet(name string) {
	if _, ok := w.places[name]; !ok {
		w.places[name] = w.constant(0)
	}
}
