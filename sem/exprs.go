package sem

import (
	"caponier/alu"
	"caponier/api"
)

// value is what an expression comes to.
func (f *frame) value(e api.Expr) uint64 {
	return f.exprs[e.Kind](e)
}

// values are what expressions come to, from the first on.
func (f *frame) values(l []api.Expr) []uint64 {
	var values []uint64
	for _, e := range l {
		values = append(values, f.value(e))
	}
	return values
}

// number is a number itself.
func (f *frame) number(e api.Expr) uint64 {
	return e.Num
}

// variable is what one was set to last, 0 if it wasn't.
func (f *frame) variable(e api.Expr) uint64 {
	return f.vars[e.Name]
}

// get is an element.
func (f *frame) get(e api.Expr) uint64 {
	return *f.element(e.Name, f.value(e.Args[0]))
}

// operation is what one does of both.
func (f *frame) operation(e api.Expr) uint64 {
	args := f.values(e.Args)
	v, _ := alu.Two(int(e.Num), args[0], args[1])
	return v
}

// choice is the second of three, or the third; all are reckoned, so that the first can't be told by what the others do.
func (f *frame) choice(e api.Expr) uint64 {
	args := f.values(e.Args)
	if args[0] != 0 {
		return args[1]
	}
	return args[2]
}

// call is what a function returns. A pointer is handed on as the number that it is.
func (f *frame) call(e api.Expr) uint64 {
	return f.run.call(f.run.funcs[e.Name], f.values(e.Args))
}

// open is its argument, which is put down once it is reckoned: what is opened within comes ahead.
func (f *frame) open(e api.Expr) uint64 {
	v := f.value(e.Args[0])
	f.run.opened = append(f.run.opened, v)
	return v
}
