package cpu

import (
	"caponier/alu"
	"caponier/api"
	"caponier/bits"
)

const (
	instructionBytes = 4
	asItIs           = 64 // bits by which a number may be signed without a change
)

// operations are what each operation does. Whatever it is, it goes on somewhere, stops or breaks.
func (c *Cpu) operations() map[int]func(api.Ins) {
	does := map[int]func(api.Ins){
		api.Lb:     access{c: c, bytes: 1, signed: 8}.load,
		api.Lbu:    access{c: c, bytes: 1, signed: asItIs}.load,
		api.Lw:     access{c: c, bytes: 4, signed: 32}.load,
		api.Ld:     access{c: c, bytes: 8, signed: asItIs}.load,
		api.Sb:     access{c: c, bytes: 1}.store,
		api.Sw:     access{c: c, bytes: 4}.store,
		api.Sd:     access{c: c, bytes: 8}.store,
		api.Lui:    c.upper,
		api.Auipc:  c.upperFromHere,
		api.Jal:    c.jump,
		api.Jalr:   c.jumpTo,
		api.Ebreak: c.stop,
	}
	for op := api.Add; op <= api.Remu; op++ {
		does[op] = c.two
	}
	for op := api.Addi; op <= api.Srai; op++ {
		does[op] = c.one
	}
	for op := api.Beq; op <= api.Bgeu; op++ {
		does[op] = c.branch
	}
	return does
}

// two reckons with two registers.
func (c *Cpu) two(x api.Ins) {
	a, b := c.read(x.Rs1), c.read(x.Rs2)
	if alu.Varies(x.Op) {
		c.show(api.Leak{Kind: api.LeakDiv, A: a, B: b})
	}
	v, _ := alu.Two(x.Op, a, b)
	c.write(x.Rd, v)
}

// one reckons with a register and a number.
func (c *Cpu) one(x api.Ins) {
	v, _ := alu.One(x.Op, c.read(x.Rs1), x.Imm)
	c.write(x.Rd, v)
}

// upper sets a register to a number.
func (c *Cpu) upper(x api.Ins) {
	c.write(x.Rd, uint64(x.Imm))
}

// upperFromHere sets a register to an address so far from here.
func (c *Cpu) upperFromHere(x api.Ins) {
	c.write(x.Rd, c.far(x.Imm))
}

// branch goes on so far from here, if it is taken.
func (c *Cpu) branch(x api.Ins) {
	if taken, _ := alu.Taken(x.Op, c.read(x.Rs1), c.read(x.Rs2)); taken {
		c.state.Pc = c.far(x.Imm)
		return
	}
	c.state.Pc = c.next()
}

// jump goes on so far from here.
func (c *Cpu) jump(x api.Ins) {
	c.leap(x.Rd, c.far(x.Imm))
}

// jumpTo goes on where a register and a number tell.
func (c *Cpu) jumpTo(x api.Ins) {
	c.leap(x.Rd, c.sum(x)&^1)
}

// stop leaves it where it is.
func (c *Cpu) stop(api.Ins) {
	c.state.Done = api.Stopped
}

// access is a load or a store of so many bytes; what is loaded is signed by so many bits.
type access struct {
	c      *Cpu
	bytes  int
	signed int
}

// load sets a register to what lies somewhere.
func (a access) load(x api.Ins) {
	at := a.touch(x)
	v, code := a.c.memory.Load(at, a.bytes, a.c.state.Own)
	if code != api.OK {
		a.c.state.Done = api.Broken
		return
	}
	a.c.write(x.Rd, uint64(bits.Sign(v, a.signed)))
}

// store lets a register's number lie somewhere.
func (a access) store(x api.Ins) {
	at := a.touch(x)
	if code := a.c.memory.Store(at, a.bytes, a.c.state.Own, a.c.read(x.Rs2)); code != api.OK {
		a.c.state.Done = api.Broken
		return
	}
	a.c.state.Pc = a.c.next()
}

// touch is the address of a load or a store. It is shown whether memory refuses it or not.
func (a access) touch(x api.Ins) uint64 {
	at := a.c.sum(x)
	a.c.show(api.Leak{Kind: api.LeakAt, A: at})
	return at
}

// read is what a register holds.
func (c *Cpu) read(r int) uint64 {
	return c.state.Regs[r]
}

// set lets a register hold a number, but register 0, which is always 0.
func (c *Cpu) set(r int, v uint64) {
	if r != 0 {
		c.state.Regs[r] = v
	}
}

// write sets a register, and goes on with the next instruction.
func (c *Cpu) write(r int, v uint64) {
	c.set(r, v)
	c.state.Pc = c.next()
}

// leap goes on elsewhere, and sets a register to where the next instruction is. The address comes as a number, so that it is reckoned ahead of the register.
func (c *Cpu) leap(r int, to uint64) {
	c.set(r, c.next())
	c.state.Pc = to
}

// next is where the next instruction is.
func (c *Cpu) next() uint64 {
	return c.far(instructionBytes)
}

// far is the address so far from here.
func (c *Cpu) far(n int64) uint64 {
	return c.state.Pc + uint64(n)
}

// sum is a register's number and the instruction's.
func (c *Cpu) sum(x api.Ins) uint64 {
	return c.read(x.Rs1) + uint64(x.Imm)
}
