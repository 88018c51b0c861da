package opt_test

import (
	"fmt"
	"math/rand"
	"slices"
	"testing"

	"caponier/api"
	"caponier/ir"
	"caponier/irsem"
	"caponier/opt"
	"caponier/sec"
)

func newRand(seed int64) *rand.Rand {
	return rand.New(rand.NewSource(seed))
}

// TestLooseRoutinesAtRandom holds what is folded and swept, of routines of any lines, against the tests' own way.
func TestLooseRoutinesAtRandom(t *testing.T) {
	m := maker{newRand(1501)}
	folded, swept := 0, 0
	for range 40000 {
		r := m.loose()
		wantFoldedSwept(t, "at random", r)
		if t.Failed() {
			t.FailNow()
		}
		folded += min(len(r.Lines)-len(opt.Fold(r).Lines), 1)
		swept += min(len(r.Lines)-len(opt.Sweep(r).Lines), 1)
	}
	if folded < 1500 || swept < 25000 {
		t.Errorf("the test is wrong: %d, %d", folded, swept)
	}
}

// outcome is all that a call comes to, in one text.
func outcome(o api.Outcome) string {
	s := fmt.Sprint(o.Value, append([]uint64{}, o.Opened...), append([]uint64{}, o.World.Shared...))
	for _, words := range o.World.Secrets {
		s += fmt.Sprint(words)
	}
	return s
}

// wantNoWorse wants routines that were made better to come to the same as they did, in no more steps, and tells the code to which both come, and how many steps are spared.
func wantNoWorse(t *testing.T, l, better []api.Routine, p api.Prog, f int, args []uint64, w api.World, fuel int) (api.Code, int) {
	t.Helper()
	want, _, e := irsem.Run(l, p, f, args, w, fuel)
	if e == api.Fuel {
		return e, 0
	}
	got, _, e2 := irsem.Run(better, p, f, args, w, fuel)
	if e2 != e || outcome(got) != outcome(want) {
		t.Errorf("P15.3: %s: %d of %v, %v:\n%s come to %d, %v; want %d, %v of\n%s", short(p), f, args, w, few(texts(better)), e2, got, e, want, few(texts(l)))
	}
	steps, most := irsem.Steps(better, p, f, args, w, fuel), irsem.Steps(l, p, f, args, w, fuel)
	if steps > most {
		t.Errorf("P15.3: %s: %d of %v: %d steps; at most %d", short(p), f, args, steps, most)
	}
	return e, most - steps
}

// TestSourcesAtRandom lowers sources, makes them better, and runs both.
func TestSourcesAtRandom(t *testing.T) {
	m := maker{newRand(1502)}
	runs, spared := 0, 0
	for range 1500 {
		p := m.prog()
		if sec.Check(p) != api.OK {
			continue
		}
		l := lowered(t, p)
		better, _ := wantAll(t, short(p), l, p)
		for f := range p.Funcs {
			for range 2 {
				w := m.world(p)
				if args, ok := m.args(p.Funcs[f], w); ok {
					_, steps := wantNoWorse(t, l, better, p, f, args, w, 1<<20)
					runs, spared = runs+1, spared+min(steps, 1)
				}
			}
		}
		if t.Failed() {
			t.FailNow()
		}
	}
	if runs < 3000 || spared < 2500 {
		t.Errorf("the test is wrong: %d, %d", runs, spared)
	}
}

// TestRoutinesAtRandom makes routines better that nobody lowered, and runs both.
func TestRoutinesAtRandom(t *testing.T) {
	m := maker{newRand(1503)}
	codes, times, spared := map[api.Code]int{}, map[int]int{}, 0
	for range 4000 {
		p := m.prog()
		if sec.Check(p) != api.OK {
			continue
		}
		l := m.routines(p)
		if !ir.May(l, p) {
			t.Fatalf("the test is wrong: %s: %s", short(p), texts(l))
		}
		for _, r := range l {
			wantFoldedSwept(t, "at random", r)
		}
		better, n := wantAll(t, short(p), l, p)
		times[n]++
		for f := range p.Funcs {
			w := m.world(p)
			if args, ok := m.args(p.Funcs[f], w); ok {
				e, steps := wantNoWorse(t, l, better, p, f, args, w, 1000)
				codes[e]++
				spared += min(steps, 1)
			}
		}
		if t.Failed() {
			t.FailNow()
		}
	}
	if codes[api.OK] < 3000 || codes[api.Fuel] < 100 || codes[api.Refused] < 500 || spared < 2000 {
		t.Errorf("the test is wrong: %v, %d", codes, spared)
	}
	if times[1] < 500 || times[2] < 100 || times[3] < 3 {
		t.Errorf("the test is wrong: %v", times)
	}
}

// TestSources: sources of which more is known the more is left out, made better to just these lines.
func TestSources(t *testing.T) {
	for _, c := range []struct {
		source string
		want   []api.Line
	}{
		{"(fun f () (ret x))", row(number(1, 0), ret(1))},
		{"(fun f (a) (ret (add a 1)))", row(number(2, 1), two(api.Add, 3, 1, 2), ret(3))},
		{"(fun f () (set x 2) (set y (mul x 3)) (ret (sub y x)))", row(number(6, 4), ret(6))},
		{"(fun f (a) (set x 5) (set y a) (set x a) (ret 0))", row(number(5, 0), ret(5))},
		{"(fun f (a) (ret (sel 1 a 7)))", row(number(3, 7), number(6, all), two(api.Xor, 7, 1, 3), two(api.And, 8, 7, 6), two(api.Xor, 9, 8, 3), ret(9))},
		{"(fun f ((ptr p 4)) (ret (get p 5)))", row(number(2, 5), number(3, 4), two(api.Remu, 4, 2, 3), number(5, 3), two(api.Sll, 6, 4, 5), two(api.Add, 7, 1, 6), load(8, 7), ret(8))},
		{"(fun f () (if 0 ((set x 1)) ((set x 2))) (ret x))", row(number(1, 0), jump(1), label(1), number(1, 2), ret(1))},
		{"(fun f () (if 3 ((set x 1)) ((set x 2))) (ret x))", row(number(1, 0), number(1, 1), jump(2), label(2), ret(1))},
	} {
		p := parsed(t, c.source)
		l := lowered(t, p)
		better, _ := wantAll(t, c.source, l, p)
		want := l[0]
		want.Lines = c.want
		if texts(better) != text(want) {
			t.Errorf("P15.2: %s: %s; want %s", c.source, texts(better), text(want))
		}
		args := make([]uint64, l[0].Params)
		for v := range uint64(5) {
			if len(args) > 0 && p.Funcs[0].Params[0].Kind != api.Pointer {
				args[0] = v
			}
			wantNoWorse(t, l, better, p, 0, args, api.World{Shared: []uint64{1, 2, 3, 4}}, 1000)
		}
	}
}

// room is a list with spare room that holds something.
func room[T any](l []T, spare T) []T {
	return append(slices.Clone(l), spare)[:len(l)]
}

// roomy are routines, their lists with spare room.
func roomy(l []api.Routine) []api.Routine {
	l = room(l, api.Routine{Name: "spare"})
	for i, r := range l {
		l[i].Lines = room(r.Lines, api.Line{Name: "spare"})
		for k, x := range r.Lines {
			l[i].Lines[k].Args = room(x.Args, 77)
		}
	}
	return l
}

// whole is all that routines hold, the spare room of their lists too.
func whole(l []api.Routine) string {
	s := fmt.Sprint(l[:len(l)+1])
	for _, r := range l {
		s += fmt.Sprint(r.Lines[:len(r.Lines)+1])
		for _, x := range r.Lines {
			s += fmt.Sprint(x.Args[:len(x.Args)+1])
		}
	}
	return s
}

// overwritten writes over all that routines hold, their spare room too.
func overwritten(l []api.Routine) {
	for i := range l {
		rows := l[i].Lines[:cap(l[i].Lines)]
		for k := range rows {
			args := rows[k].Args[:cap(rows[k].Args)]
			for n := range args {
				args[n] = 99
			}
			rows[k] = ret(99)
		}
	}
	clear(l)
}

// some are routines of bench of which some lines are left out, and which have arguments.
func some() []api.Routine {
	return onBench(number(4, 5), number(5, 1), zero(5, 2), copied(6, 4), call(7, "both", 6, 1), call(8, "both", 7, 4), zero(3, 1), jump(2), call(8, "both", 1, 1), label(1), number(8, 3), label(2), call(9, "both", 8, 8), ret(9))
}

// calls are the three, each handed routines.
func calls(t *testing.T) map[string]func(l []api.Routine) []api.Routine {
	p := parsed(t, bench)
	each := func(do func(api.Routine) api.Routine) func(l []api.Routine) []api.Routine {
		return func(l []api.Routine) []api.Routine {
			var out []api.Routine
			for _, r := range l {
				out = append(out, do(r))
			}
			return out
		}
	}
	return map[string]func(l []api.Routine) []api.Routine{"Fold": each(opt.Fold), "Sweep": each(opt.Sweep), "All": func(l []api.Routine) []api.Routine {
		out, e := opt.All(l, p)
		if e != api.OK {
			t.Errorf("the test is wrong: %d", e)
		}
		return out
	}}
}

// tooGreat are routines that stay as they are.
func tooGreat() []api.Routine {
	l := some()
	l[2].Regs = 5
	return l
}

// TestNothingIsChangedNorKept: rule 3 of the document.
func TestNothingIsChangedNorKept(t *testing.T) {
	for what, do := range calls(t) {
		for _, handed := range [][]api.Routine{some(), tooGreat()} {
			if what == "All" && handed[2].Regs == 5 {
				continue
			}
			l := roomy(handed)
			before := whole(l)
			got := do(l)
			want := texts(got)
			if whole(l) != before {
				t.Errorf("rule 3: %s: something is changed that was handed in", what)
			}
			overwritten(l)
			if texts(got) != want {
				t.Errorf("rule 3: %s: what was handed in is kept: %s; want %s", what, texts(got), want)
			}
			if again := do(handed); texts(again) != want {
				t.Errorf("rule 5: %s: %s; want %s", what, texts(again), want)
			}
		}
	}
	l := roomy(tooGreat())
	before := whole(l)
	if got, e := opt.All(l, parsed(t, bench)); e != api.Arg || len(got) != 0 || whole(l) != before {
		t.Errorf("P15.2: %d, %s", e, texts(got))
	}
}

// TestAnswersHaveMemoryOfTheirOwn: rule 3 of the document, and that no two lists of an answer share theirs.
func TestAnswersHaveMemoryOfTheirOwn(t *testing.T) {
	for what, do := range calls(t) {
		for _, handed := range [][]api.Routine{some(), tooGreat()} {
			if what == "All" && handed[2].Regs == 5 {
				continue
			}
			// One list of arguments in many lines.
			for i := range handed[2].Lines {
				if len(handed[2].Lines[i].Args) > 0 {
					handed[2].Lines[i].Args = handed[2].Lines[4].Args
				}
			}
			before, want := texts(handed), do(handed)
			for i, r := range want {
				for k := range r.Lines {
					got, mine := do(handed), do(handed)
					args := got[i].Lines[k].Args
					args = args[:cap(args)]
					for n := range args {
						args[n] = 99
					}
					got[i].Lines[k].Args, mine[i].Lines[k].Args = nil, nil
					if texts(got) != texts(mine) {
						t.Errorf("rule 3: %s: list %d, %d lies over another", what, i, k)
					}
				}
			}
			got := do(handed)
			overwritten(got)
			if texts(handed) != before || texts(do(handed)) != texts(want) {
				t.Errorf("rule 3: %s: an answer's lists aren't its own", what)
			}
		}
	}
}

// TestCallsHangOnNothingElse asks the same, with other calls between.
func TestCallsHangOnNothingElse(t *testing.T) {
	m := maker{newRand(1504)}
	for what, do := range calls(t) {
		want := texts(do(some()))
		for range 100 {
			p := m.prog()
			l := m.routines(p)
			opt.All(l, p)
			opt.All(some(), p)
			opt.Fold(m.loose())
			opt.Sweep(m.loose())
			if got := texts(do(some())); got != want {
				t.Fatalf("rule 5: %s: %s; want %s", what, got, want)
			}
		}
	}
}
