package opt

import (
	"caponier/alu"
	"caponier/api"
)

// fold folds all lines, one behind the other.
func (w *work) fold() {
	clear(w.known)
	for i := range w.lines {
		if !w.out[i] {
			w.foldLine(i)
		}
	}
}

// foldLine folds a line, and learns from what it is then.
func (w *work) foldLine(i int) {
	x := w.lines[i]
	a, ok := w.known[x.A]
	switch {
	case x.Op == api.LTwo:
		if v, ok := w.outcome(x); ok {
			w.become(i, constant(x.D, v))
		}
	case x.Op == api.LCopy && ok:
		w.become(i, constant(x.D, a))
	case x.Op == api.LZero && ok && a == 0:
		w.become(i, api.Line{Op: api.LJump, Num: x.Num})
	case x.Op == api.LZero && ok:
		w.leaveOut(i)
	}
	w.learn(w.lines[i])
}

// outcome is what an operation of two comes to, if that is known and shows nothing: what varies stays.
func (w *work) outcome(x api.Line) (uint64, bool) {
	a, okA := w.known[x.A]
	b, okB := w.known[x.B]
	op := int(x.Num)
	if !okA || !okB || x.Num > api.Remu || alu.Varies(op) {
		return 0, false
	}
	return alu.Two(op, a, b)
}

// learn puts down what is known behind a line. To a label one may come from elsewhere.
func (w *work) learn(x api.Line) {
	switch {
	case x.Op == api.LLabel:
		clear(w.known)
	case x.Op == api.LConst && x.D != 0:
		w.known[x.D] = x.Num
	default:
		delete(w.known, x.D)
	}
}

// constant is the line by which a register becomes a number.
func constant(d int, n uint64) api.Line {
	return api.Line{Op: api.LConst, D: d, Num: n}
}
