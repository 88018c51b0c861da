package irsem

import "caponier/api"

const maxFuel = 1 << 20

// run is a call that is run: what its lines need to know, and what they have done by now.
type run struct {
	routines []api.Routine
	numbers  map[string]int   // which routine has a name
	behind   []map[uint64]int // of each routine, the line behind a label
	arrays   map[string]uint64
	kinds    map[int]func(api.Line)
	fuel     int

	at     *frame // the routine that is run just now
	memory *memory
	steps  int
	value  uint64
	opened []uint64
	shown  []api.Leak
}

// newRun is a run in which nothing was done yet.
func newRun(l []api.Routine, p api.Prog, w api.World, fuel int) *run {
	r := &run{routines: l, numbers: map[string]int{}, arrays: arrayAddresses(p), fuel: min(fuel, maxFuel), memory: newMemory(w)}
	for i, x := range l {
		r.numbers[x.Name] = i
		r.behind = append(r.behind, behindLabels(x.Lines))
	}
	r.kinds = map[int]func(api.Line){
		api.LConst: r.constant,
		api.LTwo:   r.operation,
		api.LCopy:  r.copied,
		api.LAddr:  r.address,
		api.LLoad:  r.load,
		api.LStore: r.store,
		api.LJump:  r.jump,
		api.LZero:  r.zero,
		api.LLabel: r.label,
		api.LCall:  r.call,
		api.LOpen:  r.open,
		api.LRet:   r.ret,
	}
	return r
}

// behindLabels are the lines behind labels, by these.
func behindLabels(l []api.Line) map[uint64]int {
	m := map[uint64]int{}
	for i, x := range l {
		if x.Op == api.LLabel {
			m[x.Num] = i + 1
		}
	}
	return m
}

// frame is a routine that is run: which one it is, its registers, and which line comes next. The registers lie in a map, since a routine may have many of which a run sets few.
type frame struct {
	number int
	regs   map[int]uint64
	next   int
}

// newFrame is a routine of which nothing was done yet.
func newFrame(number int, args []uint64) *frame {
	f := &frame{number: number, regs: map[int]uint64{}}
	for i, v := range args {
		f.regs[i+1] = v
	}
	return f
}

// routine is what one returns. It is over behind its last line, which is the one that returns.
func (r *run) routine(number int, args []uint64) uint64 {
	caller := r.at
	r.at = newFrame(number, args)
	for lines := r.routines[number].Lines; r.at.next < len(lines); {
		r.step(lines[r.at.next])
	}
	r.at = caller
	return r.value
}

// step does a line, if there is fuel for it. Where it is, is shown ahead of what it does.
func (r *run) step(x api.Line) {
	want(r.steps < r.fuel, api.Fuel)
	r.steps++
	r.show(api.LeakPc, uint64(r.at.number), uint64(r.at.next))
	r.at.next++
	r.kinds[x.Op](x)
}

// show puts down what a line shows.
func (r *run) show(kind int, a, b uint64) {
	r.shown = append(r.shown, api.Leak{Kind: kind, A: a, B: b})
}
