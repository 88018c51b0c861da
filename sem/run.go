package sem

import (
	"slices"

	"caponier/api"
)

// run is a call that is run: the source's functions, the world as it is by now, and what was opened.
type run struct {
	funcs   map[string]api.Func
	secrets map[string][]uint64 // the world's own words, by their arrays' names
	world   api.World
	opened  []uint64
}

// newRun is a run in which nothing was done yet. Its world is a copy, of each list by itself: those handed in may lie over one another.
func newRun(p api.Prog, w api.World) *run {
	r := &run{funcs: map[string]api.Func{}, secrets: map[string][]uint64{}}
	for _, f := range p.Funcs {
		r.funcs[f.Name] = f
	}
	for i, a := range p.Secrets {
		words := slices.Clone(w.Secrets[i])
		r.secrets[a.Name] = words
		r.world.Secrets = append(r.world.Secrets, words)
	}
	r.world.Shared = slices.Clone(w.Shared)
	return r
}

// call is what a function returns. Callers see to it that the arguments may be its.
func (r *run) call(x api.Func, args []uint64) uint64 {
	f := newFrame(r, x, args)
	f.all(x.Body)
	return f.returned
}

// frame is a function that is run.
type frame struct {
	run      *run
	vars     map[string]uint64   // a pointer's is the number of its first shared word
	pointed  map[string][]uint64 // the shared words at which pointers point
	returned uint64
	stmts    map[int]func(api.Stmt)
	exprs    map[int]func(api.Expr) uint64
}

// newFrame is a function of which nothing was done yet.
func newFrame(r *run, x api.Func, args []uint64) *frame {
	f := &frame{run: r, vars: map[string]uint64{}, pointed: map[string][]uint64{}}
	for i, p := range x.Params {
		f.vars[p.Name] = args[i]
		if p.Kind == api.Pointer {
			f.pointed[p.Name] = r.world.Shared[args[i]:][:p.Len]
		}
	}
	f.stmts = map[int]func(api.Stmt){
		api.SSet: f.set,
		api.SPut: f.put,
		api.SIf:  f.either,
		api.SFor: f.loop,
		api.SRet: f.ret,
	}
	f.exprs = map[int]func(api.Expr) uint64{
		api.ENum:  f.number,
		api.EVar:  f.variable,
		api.EGet:  f.get,
		api.EOp:   f.operation,
		api.ESel:  f.choice,
		api.ECall: f.call,
		api.EOpen: f.open,
	}
	return f
}

// element is that of an array which an index means.
func (f *frame) element(array string, index uint64) *uint64 {
	words, ok := f.pointed[array]
	if !ok {
		words = f.run.secrets[array]
	}
	return &words[index%uint64(len(words))]
}
