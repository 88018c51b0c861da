package opt_test

import (
	"fmt"
	"slices"
	"strings"

	"caponier/alu"
	"caponier/api"
)

// The tests' own, slow way of doing what the chapter says: for what a register is known to be, one looks back line by line; and what isn't needed is looked for anew behind each line that is left out.

// past is a line that was folded: what it is now, or that it was left out.
type past struct {
	line api.Line
	out  bool
}

// slowKnown is what a register is known to be behind these lines.
func slowKnown(l []past, reg int) (uint64, bool) {
	if reg == 0 {
		return 0, false
	}
	for _, x := range slices.Backward(l) {
		switch {
		case x.line.Op == api.LLabel:
			return 0, false
		case x.line.D == reg && !x.out && x.line.Op == api.LConst:
			return x.line.Num, true
		case x.line.D == reg:
			return 0, false
		}
	}
	return 0, false
}

// slowFold is a routine folded.
func slowFold(r api.Routine) api.Routine {
	if !slowFits(r) {
		return r
	}
	var l []past
	for _, x := range r.Lines {
		y := past{line: x}
		a, okA := slowKnown(l, x.A)
		b, okB := slowKnown(l, x.B)
		switch {
		case x.Op == api.LCopy && okA:
			y.line = api.Line{D: x.D, Num: a}
		case x.Op == api.LTwo && okA && okB && slices.Contains(steady(), x.Num):
			v, _ := alu.Two(int(x.Num), a, b)
			y.line = api.Line{D: x.D, Num: v}
		case x.Op == api.LZero && okA && a == 0:
			y.line = api.Line{Op: api.LJump, Num: x.Num}
		case x.Op == api.LZero && okA:
			y.out = true
		}
		l = append(l, y)
	}
	r.Lines = nil
	for _, x := range l {
		if !x.out {
			r.Lines = append(r.Lines, x.line)
		}
	}
	return r
}

// steady are the operations whose time hangs on nothing.
func steady() []uint64 {
	return []uint64{api.Add, api.Sub, api.Sll, api.Slt, api.Sltu, api.Xor, api.Srl, api.Sra, api.Or, api.And, api.Mul, api.Mulhu}
}

// slowSweep is a routine swept.
func slowSweep(r api.Routine) api.Routine {
	if !slowFits(r) {
		return r
	}
	l := slices.Clone(r.Lines)
	for i := len(l) - 1; i >= 0; i-- {
		atEnd := i == len(r.Lines)-1 && l[i].Op == api.LRet
		if l[i].Op != api.LLabel && !atEnd && slowBeyond(r.Lines[:i]) {
			l = slices.Delete(l, i, i+1)
		}
	}
	reached := slices.Clone(l)
	l = slices.DeleteFunc(l, func(x api.Line) bool {
		return x.Op == api.LLabel && !slices.ContainsFunc(reached, func(y api.Line) bool {
			return (y.Op == api.LJump || y.Op == api.LZero) && y.Num == x.Num
		})
	})
	for {
		i := slices.IndexFunc(l, func(x api.Line) bool { return slowNeedless(l, x) })
		if i < 0 {
			break
		}
		l = slices.Delete(l, i, i+1)
	}
	r.Lines = l
	return r
}

// slowBeyond tells whether what comes behind these lines is between a jump and the next label.
func slowBeyond(l []api.Line) bool {
	for _, x := range slices.Backward(l) {
		if x.Op == api.LLabel || x.Op == api.LJump {
			return x.Op == api.LJump
		}
	}
	return false
}

// slowNeedless tells whether a line is one that may be left out, since none has its register.
func slowNeedless(l []api.Line, x api.Line) bool {
	if !slices.Contains([]int{api.LConst, api.LTwo, api.LCopy, api.LAddr}, x.Op) {
		return false
	}
	return x.D == 0 || !slices.ContainsFunc(l, func(y api.Line) bool {
		return y.A == x.D || y.B == x.D || slices.Contains(y.Args, x.D)
	})
}

// slowFits tells whether a routine is one that is folded and swept.
func slowFits(r api.Routine) bool {
	if r.Regs < 0 || r.Regs > 100000 || len(r.Lines) > 20000 {
		return false
	}
	for _, x := range r.Lines {
		all := append([]int{x.D, x.A, x.B}, x.Args...)
		if slices.Min(all) < 0 || slices.Max(all) > r.Regs {
			return false
		}
	}
	return true
}

// slowBetter is a routine made better, and how many times it was folded and swept till nothing changed.
func slowBetter(r api.Routine) (api.Routine, int) {
	for n := 0; ; n++ {
		next := slowSweep(slowFold(r))
		if text(next) == text(r) {
			return next, n
		}
		r = next
	}
}

// slowAll are routines made better, and how many times the one was folded and swept that needed it most.
func slowAll(l []api.Routine) ([]api.Routine, int) {
	var out []api.Routine
	most := 0
	for _, r := range l {
		x, n := slowBetter(r)
		out, most = append(out, x), max(most, n)
	}
	return out, most
}

// text is all that a routine holds, in one text, by which it may be held against others.
func text(r api.Routine) string {
	var b strings.Builder
	fmt.Fprintf(&b, "%q %d %d\n", r.Name, r.Params, r.Regs)
	for _, x := range r.Lines {
		fmt.Fprintf(&b, "%d %d %d %d %d %q %v\n", x.Op, x.D, x.A, x.B, x.Num, x.Name, append([]int{}, x.Args...))
	}
	return b.String()
}

// texts is all that routines hold.
func texts(l []api.Routine) string {
	var b strings.Builder
	for _, r := range l {
		b.WriteString(text(r))
	}
	return b.String()
}
