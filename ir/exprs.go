package ir

import "caponier/api"

// wordShift is by how much an element's number is shifted to the bytes ahead of it.
const wordShift = 3

// expr puts an expression's lines, and tells in which register they leave it.
func (w *writer) expr(e api.Expr) int {
	args := w.exprs(e.Args)
	switch e.Kind {
	case api.ENum:
		return w.constant(e.Num)
	case api.EGet:
		return w.into(api.Line{Op: api.LLoad, A: w.address(e.Name, args[0])})
	case api.EOp:
		return w.two(e.Num, args[0], args[1])
	case api.ESel:
		return w.choice(args[0], args[1], args[2])
	case api.ECall:
		return w.into(api.Line{Op: api.LCall, Name: e.Name, Args: args})
	case api.EOpen:
		w.put(api.Line{Op: api.LOpen, A: args[0]})
		return args[0]
	}
	return w.places[e.Name]
}

// exprs puts expressions' lines. A pointer that is handed on is an EVar as others are: it has a register, and no line.
func (w *writer) exprs(l []api.Expr) []int {
	var regs []int
	for _, e := range l {
		regs = append(regs, w.expr(e))
	}
	return regs
}

// address puts the address of an array's element.
func (w *writer) address(array string, index int) int {
	words := w.constant(uint64(w.words[array]))
	number := w.two(api.Remu, index, words)
	shift := w.constant(wordShift)
	bytes := w.two(api.Sll, number, shift)
	first, ok := w.places[array]
	if !ok {
		first = w.into(api.Line{Op: api.LAddr, Name: array})
	}
	return w.two(api.Add, first, bytes)
}

// choice puts a, or b if c is 0. It jumps nowhere, so that a secret c isn't told by where it goes.
func (w *writer) choice(c, a, b int) int {
	zero := w.constant(0)
	chosen := w.two(api.Sltu, zero, c)
	mask := w.two(api.Sub, zero, chosen)
	differ := w.two(api.Xor, a, b)
	change := w.two(api.And, differ, mask)
	return w.two(api.Xor, change, b)
}
