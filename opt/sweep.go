package opt

import "caponier/api"

// sweep leaves out what nothing needs.
func (w *work) sweep() {
	w.leaveUnreached()
	w.leaveUnnamed()
	w.leaveUnasked()
}

// leaveUnreached leaves out what no way leads to, since it is behind a jump. The return at the end stays, for each routine has one.
func (w *work) leaveUnreached() {
	beyond := false
	for i, x := range w.lines {
		if w.out[i] {
			continue
		}
		beyond = beyond && x.Op != api.LLabel
		if beyond && !w.returnsLast(i) {
			w.leaveOut(i)
		}
		beyond = beyond || x.Op == api.LJump
	}
}

// returnsLast tells whether a line is the last of all, and returns.
func (w *work) returnsLast(i int) bool {
	return i == len(w.lines)-1 && w.lines[i].Op == api.LRet
}

// leaveUnnamed leaves out labels that no line names.
func (w *work) leaveUnnamed() {
	for i, x := range w.lines {
		if !w.out[i] && x.Op == api.LLabel && w.naming[x.Num] == 0 {
			w.leaveOut(i)
		}
	}
}

// leaveUnasked leaves out lines that do nothing but set a register for which no line asks. What these ask for alone is asked for by none then, and comes next.
func (w *work) leaveUnasked() {
	for len(w.unasked) > 0 {
		last := len(w.unasked) - 1
		reg := w.unasked[last]
		w.unasked = w.unasked[:last]
		for _, i := range w.setters[reg] {
			if !w.out[i] {
				w.leaveOut(i)
			}
		}
	}
}
