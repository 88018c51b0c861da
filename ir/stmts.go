package ir

import "caponier/api"

// stmts puts statements' lines.
func (w *writer) stmts(l []api.Stmt) {
	for _, s := range l {
		w.stmt(s)
	}
}

// stmt puts a statement's lines, those of its own expressions first.
func (w *writer) stmt(s api.Stmt) {
	args := w.exprs(s.Args)
	switch s.Kind {
	case api.SSet:
		w.put(copied(w.places[s.Name], args[0]))
	case api.SPut:
		w.put(api.Line{Op: api.LStore, A: w.address(s.Name, args[0]), B: args[1]})
	case api.SIf:
		w.either(args[0], s)
	case api.SFor:
		w.loop(s)
	case api.SRet:
		w.put(api.Line{Op: api.LRet, A: args[0]})
	}
}

// either puts two lists, of which one is done. The label behind both is named first behind all within the first list.
func (w *writer) either(condition int, s api.Stmt) {
	no := w.label()
	w.put(unless(condition, no))
	w.stmts(s.Then)
	end := w.label()
	w.put(jump(end), label(no))
	w.stmts(s.Else)
	w.put(label(end))
}

// loop puts a list that is done so many times. The count has a register of its own, since the variable stays as it is behind the last time.
func (w *writer) loop(s api.Stmt) {
	count := w.constant(0)
	again, end := w.label(), w.label()
	w.put(label(again))
	times := w.constant(uint64(s.Num))
	more := w.two(api.Sltu, count, times)
	w.put(unless(more, end), copied(w.places[s.Name], count))
	w.stmts(s.Then)
	one := w.constant(1)
	next := w.two(api.Add, count, one)
	w.put(copied(count, next), jump(again), label(end))
}

// copied is the line by which a register becomes what another is.
func copied(d, a int) api.Line {
	return api.Line{Op: api.LCopy, D: d, A: a}
}

// unless is the line that goes on at a label, if a register is 0.
func unless(a int, to uint64) api.Line {
	return api.Line{Op: api.LZero, A: a, Num: to}
}

// jump is the line that goes on at a label.
func jump(to uint64) api.Line {
	return api.Line{Op: api.LJump, Num: to}
}

// label is the line that others jump to.
func label(number uint64) api.Line {
	return api.Line{Op: api.LLabel, Num: number}
}
