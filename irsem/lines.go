package irsem

import (
	"caponier/alu"
	"caponier/api"
)

// constant makes a register a number.
func (r *run) constant(x api.Line) {
	r.at.regs[x.D] = x.Num
}

// operation makes a register what an operation does of two, and shows both, if its time may hang on them.
func (r *run) operation(x api.Line) {
	op, a, b := int(x.Num), r.at.regs[x.A], r.at.regs[x.B]
	if alu.Varies(op) {
		r.show(api.LeakDiv, a, b)
	}
	r.at.regs[x.D], _ = alu.Two(op, a, b)
}

// copied makes a register another.
func (r *run) copied(x api.Line) {
	r.at.regs[x.D] = r.at.regs[x.A]
}

// address makes a register the address of a secret array.
func (r *run) address(x api.Line) {
	r.at.regs[x.D] = r.arrays[x.Name]
}

// load makes a register a word of memory.
func (r *run) load(x api.Line) {
	r.at.regs[x.D] = *r.touched(x)
}

// store makes a word of memory a register.
func (r *run) store(x api.Line) {
	*r.touched(x) = r.at.regs[x.B]
}

// touched is the word that a load or a store is of, and shows its address.
func (r *run) touched(x api.Line) *uint64 {
	at := r.at.regs[x.A]
	r.show(api.LeakAt, at, 0)
	word := r.memory.word(at)
	want(word != nil, api.Refused)
	return word
}

// jump goes on behind a label.
func (r *run) jump(x api.Line) {
	r.at.next = r.behind[r.at.number][x.Num]
}

// zero goes on behind a label, if a register is 0.
func (r *run) zero(x api.Line) {
	if r.at.regs[x.A] == 0 {
		r.jump(x)
	}
}

// label does nothing.
func (r *run) label(api.Line) {}

// call makes a register what a routine returns. The register is its caller's, so that it is set behind the call.
func (r *run) call(x api.Line) {
	var args []uint64
	for _, a := range x.Args {
		args = append(args, r.at.regs[a])
	}
	value := r.routine(r.numbers[x.Name], args)
	r.at.regs[x.D] = value
}

// open puts down what is opened.
func (r *run) open(x api.Line) {
	r.opened = append(r.opened, r.at.regs[x.A])
}

// ret puts down what its routine returns.
func (r *run) ret(x api.Line) {
	r.value = r.at.regs[x.A]
}
