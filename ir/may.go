package ir

import (
	"slices"

	"caponier/api"
)

// How much a routine may have.
const (
	maxRegs  = 100000
	maxLines = 20000
)

// What a line's number may be.
const (
	noNumber = iota
	anyNumber
	operationNumber
	labelNumber
)

// What a line's name may be. With a routine's come arguments.
const (
	noName = iota
	arrayName
	routineName
)

// shape is what a kind of line has: registers, a number, a name.
type shape struct {
	d, a, b bool
	number  int
	name    int
}

var shapes = [...]shape{
	api.LConst: {d: true, number: anyNumber},
	api.LTwo:   {d: true, a: true, b: true, number: operationNumber},
	api.LCopy:  {d: true, a: true},
	api.LAddr:  {d: true, name: arrayName},
	api.LLoad:  {d: true, a: true},
	api.LStore: {a: true, b: true},
	api.LJump:  {number: labelNumber},
	api.LZero:  {a: true, number: labelNumber},
	api.LLabel: {number: labelNumber},
	api.LCall:  {d: true, name: routineName},
	api.LOpen:  {a: true},
	api.LRet:   {a: true},
}

// callee is a routine as a call tells it: its name, and how many parameters it has.
type callee struct {
	name   string
	params int
}

// judge tells whether routines may be a source's, one behind the other.
type judge struct {
	arrays map[string]struct{} // the secret ones
	ahead  map[callee]struct{} // the routines that were looked at
}

// newJudge is a judge that has looked at none.
func newJudge(secrets []api.Array) *judge {
	j := &judge{arrays: map[string]struct{}{}, ahead: map[callee]struct{}{}}
	for _, a := range secrets {
		j.arrays[a.Name] = struct{}{}
	}
	return j
}

// routine tells whether the next routine may be a function's. It is put down last, since it isn't ahead of itself.
func (j *judge) routine(r api.Routine, f api.Func) bool {
	may := r.Name == f.Name && r.Params == len(f.Params) && within(r.Regs, r.Params, maxRegs) &&
		j.lines(r) && returnsLast(r.Lines) && labelsFit(r.Lines)
	j.ahead[callee{name: r.Name, params: r.Params}] = struct{}{}
	return may
}

// lines tells whether a routine's lines, each by itself, may be.
func (j *judge) lines(r api.Routine) bool {
	return len(r.Lines) <= maxLines && !slices.ContainsFunc(r.Lines, func(x api.Line) bool { return !j.line(x, r.Regs) })
}

// line tells whether a line may be one of a routine of so many registers.
func (j *judge) line(x api.Line, regs int) bool {
	if !within(x.Op, 0, len(shapes)-1) {
		return false
	}
	s := shapes[x.Op]
	return mayRegister(s.d, x.D, regs) && mayRegister(s.a, x.A, regs) && mayRegister(s.b, x.B, regs) &&
		mayNumber(s.number, x.Num) && j.mayName(s.name, x) && mayArgs(x.Args, regs)
}

// mayName tells whether a line's name, and how many arguments come with it, may be.
func (j *judge) mayName(kind int, x api.Line) bool {
	switch kind {
	case arrayName:
		_, ok := j.arrays[x.Name]
		return ok && len(x.Args) == 0
	case routineName:
		_, ok := j.ahead[callee{name: x.Name, params: len(x.Args)}]
		return ok
	}
	return x.Name == "" && len(x.Args) == 0
}

// mayNumber tells whether a line may have a number.
func mayNumber(kind int, n uint64) bool {
	switch kind {
	case anyNumber:
		return true
	case operationNumber:
		return n <= api.Remu
	case labelNumber:
		return n > 0
	}
	return n == 0
}

// mayRegister tells whether a line may have a register; what has none has 0.
func mayRegister(has bool, x, regs int) bool {
	if has {
		return within(x, 1, regs)
	}
	return x == 0
}

// mayArgs tells whether all arguments are registers.
func mayArgs(l []int, regs int) bool {
	return !slices.ContainsFunc(l, func(x int) bool { return !mayRegister(true, x, regs) })
}

// returnsLast tells whether the last line is one that returns, and no other is.
func returnsLast(l []api.Line) bool {
	return slices.IndexFunc(l, func(x api.Line) bool { return x.Op == api.LRet }) == len(l)-1 && len(l) > 0
}

// labelsFit tells whether no label is there twice, and each is there to which a line jumps.
func labelsFit(l []api.Line) bool {
	there := map[uint64]struct{}{}
	for _, x := range l {
		if x.Op != api.LLabel {
			continue
		}
		if _, ok := there[x.Num]; ok {
			return false
		}
		there[x.Num] = struct{}{}
	}
	return !slices.ContainsFunc(l, func(x api.Line) bool {
		_, ok := there[x.Num]
		return (x.Op == api.LJump || x.Op == api.LZero) && !ok
	})
}

// within tells whether a number is one from the least to the most that may be.
func within(x, least, most int) bool {
	return x >= least && x <= most
}
