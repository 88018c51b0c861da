package opt

import (
	"slices"

	"caponier/api"
)

// work is lines to which something is done, and what they have to do with one another. Lines keep their numbers till all is done.
type work struct {
	lines   []api.Line
	out     []bool // which lines are left out
	changed bool   // whether one is left out, or has become another

	known   map[int]uint64 // what registers are known to be, ahead of the line that is folded
	asking  map[int]int    // how often lines have a register as A, B, or one of Args
	naming  map[uint64]int // how often lines name a label
	setters map[int][]int  // the lines that do nothing but set a register
	unasked []int          // registers for which no line asks, whose setters are still to be left out
}

// lookAtAll puts down what all lines have to do with one another.
func (w *work) lookAtAll() {
	w.known, w.asking, w.naming, w.setters = map[int]uint64{}, map[int]int{}, map[uint64]int{}, map[int][]int{}
	for i, x := range w.lines {
		w.count(x, 1)
		if onlySets(x.Op) {
			w.setters[x.D] = append(w.setters[x.D], i)
		}
	}
	for reg := range w.setters {
		if w.asking[reg] == 0 {
			w.unasked = append(w.unasked, reg)
		}
	}
}

// onlySets tells whether a kind of line does nothing but set a register.
func onlySets(op int) bool {
	return op == api.LConst || op == api.LTwo || op == api.LCopy || op == api.LAddr
}

// count puts down that a line is there once more, or once less. 0 is no register, so that none asks for it.
func (w *work) count(x api.Line, times int) {
	w.countRegister(x.A, times)
	w.countRegister(x.B, times)
	for _, a := range x.Args {
		w.countRegister(a, times)
	}
	if x.Op == api.LJump || x.Op == api.LZero {
		w.naming[x.Num] += times
	}
}

// countRegister puts down that a register is asked for once more, or once less.
func (w *work) countRegister(reg, times int) {
	if reg == 0 {
		return
	}
	w.asking[reg] += times
	if w.asking[reg] == 0 {
		w.unasked = append(w.unasked, reg)
	}
}

// leaveOut leaves a line out.
func (w *work) leaveOut(i int) {
	w.out[i], w.changed = true, true
	w.count(w.lines[i], -1)
}

// become makes a line another.
func (w *work) become(i int, x api.Line) {
	w.count(x, 1)
	w.count(w.lines[i], -1)
	w.lines[i], w.changed = x, true
}

// rest is what is left of all lines, none of its lists those that were handed in.
func (w *work) rest() []api.Line {
	var l []api.Line
	for i, x := range w.lines {
		if !w.out[i] {
			x.Args = slices.Clone(x.Args)
			l = append(l, x)
		}
	}
	return l
}

// better folds and sweeps. What is swept may leave more to be folded, and the other way round, so that behind any change it begins anew.
func (w *work) better() {
again:
	w.changed = false
	w.fold()
	w.sweep()
	if w.changed {
		goto again
	}
}
