package irsem_test

import (
	"fmt"
	"math"
	"slices"
	"testing"

	"caponier/api"
	"caponier/irsem"
)

// wantEachFuel wants what a call does with each fuel there may be: more than it needs doesn't matter, less doesn't do.
func wantEachFuel(t *testing.T, l []api.Routine, p api.Prog, f int, args []uint64, w api.World, steps int, code api.Code) {
	t.Helper()
	for fuel := -2; fuel < steps+3; fuel++ {
		got := wantAsSlow(t, l, p, f, args, w, fuel)
		want := code
		if fuel < steps {
			want = api.Fuel
		}
		if got.code != want {
			t.Errorf("the test is wrong: fuel %d: %d; want %d", fuel, got.code, want)
		}
		if _, _, e := irsem.Run(l, p, f, args, w, fuel); e != want {
			t.Errorf("P14.1: %v: fuel %d: %d; want %d", l, fuel, e, want)
		}
	}
}

// TestFuel: just as much as a run takes, and one less; none, and less than none.
func TestFuel(t *testing.T) {
	p := parsed(t, "(fun g (a) (ret a)) (fun f (a) (ret a))")
	l := []api.Routine{routine("g", 1, 2, ret(1)), routine("f", 1, 2, ret(1))}
	wantEachFuel(t, l, p, 1, row(3), api.World{}, 1, api.OK)
	for _, fuel := range []int{0, -1, -2, -1 << 20, math.MinInt, math.MinInt + 1, math.MinInt32} {
		wantCode(t, l, p, 1, row(3), api.World{}, fuel, api.Fuel)
	}
	for _, fuel := range []int{1, 2, 1 << 20, 1<<20 + 1, 1 << 31, 1 << 32, 1<<32 + 1, 1 << 40, math.MaxInt - 1, math.MaxInt} {
		if n := irsem.Steps(l, p, 1, row(3), api.World{}, fuel); n != 1 {
			t.Errorf("P14.2: fuel %d: %d", fuel, n)
		}
	}
	// A call whose last line but the return is another routine's.
	l[1] = routine("f", 1, 2, call(2, "g", 1), ret(2))
	wantEachFuel(t, l, p, 1, row(3), api.World{}, 3, api.OK)
	// It is over with the callee's last line, and its own is left.
	wantCode(t, l, p, 1, row(3), api.World{}, 2, api.Fuel)
	l[0] = routine("g", 1, 2, jump(1), number(2, 1), label(1), label(2), zero(2, 3), jump(2), label(3), ret(1))
	l[1] = routine("f", 1, 2, call(2, "g", 1), call(1, "g", 2), ret(2))
	wantEachFuel(t, l, p, 1, row(3), api.World{}, 11, api.OK)
	wantEachFuel(t, l, p, 0, row(3), api.World{}, 4, api.OK)
}

// TestFuelAheadOfRefused: what comes first ends a run; a line that may not be done isn't reached without fuel.
func TestFuelAheadOfRefused(t *testing.T) {
	p := parsed(t, "(secret k 1) (fun g (a) (ret a)) (fun f (a) (ret a))")
	w := world(row(4), row(5))
	l := []api.Routine{routine("g", 1, 2, store(2, 1), ret(1)), routine("f", 1, 2, number(2, 1<<20), store(2, 1), open(1), load(1, 1), ret(1))}
	wantEachFuel(t, l, p, 1, row(3), w, 4, api.Refused)
	wantEachFuel(t, l, p, 1, row(1<<20), w, 5, api.OK)
	l[1] = routine("f", 1, 2, open(1), call(1, "g", 2), ret(1))
	wantEachFuel(t, l, p, 1, row(3), w, 3, api.Refused)
	// Behind a loop without an end.
	l[1] = routine("f", 1, 2, label(1), jump(1), load(1, 1), ret(1))
	for _, fuel := range []int{0, 1, 2, 100, 1 << 16} {
		wantCode(t, l, p, 1, row(3), w, fuel, api.Fuel)
	}
}

// TestFuelOfLowered: each fuel, of a source with calls and loops.
func TestFuelOfLowered(t *testing.T) {
	p := parsed(t, "(secret k 2) (fun g (a (ptr p 1)) (put p a (add a (open (get k a)))) (ret (get p 0))) (export f (a (ptr q 2)) (for i 2 (if i ((set x (call g a q))) ((put k i (call g i q))))) (ret (divu x a)))")
	l := lowered(t, p)
	w := world(row(7, 8, 9), row(5, 6))
	n := irsem.Steps(l, p, 1, row(3, 1), w, 1000)
	if n < 50 {
		t.Errorf("the test is wrong: %d", n)
	}
	wantEachFuel(t, l, p, 1, row(3, 1), w, n, api.OK)
}

// turns is a routine that takes 3n+2 steps and more, n being its argument: the label that it jumps to is no step then.
func turns(more int) []api.Routine {
	l := slices.Repeat([]api.Line{copied(2, 1)}, more)
	return []api.Routine{routine("f", 1, 2, append(l, number(2, 1), label(1), two(api.Sub, 1, 1, 2), zero(1, 2), jump(1), label(2), ret(1))...)}
}

// TestMostFuel: a run has 2^20 steps at most, with whatever fuel.
func TestMostFuel(t *testing.T) {
	p := parsed(t, "(fun f (a) (ret a))")
	const n = (1<<20 - 4) / 3
	for more, steps := range map[int]int{1: 1<<20 - 1, 2: 1 << 20, 3: 1<<20 + 1} {
		for _, fuel := range []int{1<<20 - 1, 1 << 20, 1<<20 + 1, math.MaxInt} {
			if steps > min(fuel, 1<<20) {
				wantCode(t, turns(more), p, 0, row(n), api.World{}, fuel, api.Fuel)
				continue
			}
			if got := irsem.Steps(turns(more), p, 0, row(n), api.World{}, fuel); got != steps {
				t.Errorf("P14.2: fuel %d: %d; want %d", fuel, got, steps)
			}
			o, leaks, e := irsem.Run(turns(more), p, 0, row(n), api.World{}, fuel)
			if e != api.OK || len(leaks) != steps || !same(o, api.Outcome{}) {
				t.Errorf("P14.1: fuel %d: %d, %v, %d; want %d", fuel, e, o, len(leaks), steps)
			}
			if last := leaks[len(leaks)-1]; last != pc(0, uint64(more+6)) {
				t.Errorf("P14.1: %v", last)
			}
		}
	}
	// Without an end.
	wantCode(t, []api.Routine{routine("f", 1, 1, label(1), open(1), jump(1), ret(1))}, p, 0, row(3), api.World{}, math.MaxInt, api.Fuel)
	for _, l := range [][]api.Line{{label(1), jump(1), ret(1)}, {label(1), zero(2, 1), ret(1)}, {label(9), open(1), jump(9), ret(1)}, {number(2, 1), label(1), two(api.Remu, 1, 1, 2), zero(1, 1), ret(1)}} {
		for _, fuel := range []int{0, 1, 5, 1000, 1 << 16} {
			wantCode(t, []api.Routine{routine("f", 1, 2, l...)}, p, 0, row(3), api.World{}, fuel, api.Fuel)
		}
	}
}

// TestManyCalls: routines with as many registers as there may be that call one another, by which there were more calls than fuel.
func TestManyCalls(t *testing.T) {
	s := ""
	var l []api.Routine
	for i := range 32 {
		s += fmt.Sprintf("(fun f%d (a) (ret a))", i)
		lines := []api.Line{copied(100000, 1)}
		if i > 0 {
			lines = slices.Repeat([]api.Line{call(99999, fmt.Sprint("f", i-1), 1)}, 10)
		}
		l = append(l, routine(fmt.Sprint("f", i), 1, 100000, append(lines, ret(1))...))
	}
	p := parsed(t, s)
	steps := 2
	for f := range 6 {
		if got := irsem.Steps(l, p, f, row(1), api.World{}, math.MaxInt); got != steps {
			t.Errorf("P14.2: %d; want %d", got, steps)
		}
		steps = 10*(steps+1) + 1
	}
	for _, f := range []int{6, 31} {
		wantCode(t, l, p, f, row(1), api.World{}, math.MaxInt, api.Fuel)
	}
}
