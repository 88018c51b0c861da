package sem_test

import (
	"fmt"
	"math"
	"math/big"
	"slices"
	"strings"
	"testing"

	"caponier/api"
	"caponier/sec"
	"caponier/sem"
)

// noFunctions are numbers of which a source of n functions has none.
func noFunctions(n int) []int {
	return []int{-1, -2, n, n + 1, 32, 1 << 32, -1 << 32, math.MaxInt, math.MinInt, math.MinInt + 1}
}

// wrongHead is a source that is right, to which something is added that isn't.
const wrongHead = "(secret k 4) (fun id ((sec a)) (ret a)) (fun pub (a) (ret a)) (fun at ((ptr p 3) i) (ret (get p i))) (export f () (ret 7)) "

// wrongSources are items with which that source isn't right, by the code that it has then.
func wrongSources() map[api.Code][]string {
	return map[api.Code][]string{
		api.Twice: {
			"(fun f () (ret 0))", "(fun k () (ret 0))", "(fun g (a a) (ret 0))", "(fun g (k) (ret 0))", "(export g ((ptr k 1)) (ret 0))",
		},
		api.Undefined: {
			"(fun g () (ret (get x 0)))", "(fun g () (put x 0 1) (ret 0))", "(fun g () (ret (call g)))", "(fun g () (ret (call f)))", "(fun g () (ret (call h))) (fun h () (ret 0))", "(fun g (a) (ret (get a 0)))", "(fun g () (ret (get p 0)))",
		},
		api.Typed: {
			"(fun g ())", "(fun g () (set x 1))", "(fun g () (ret 0) (set x 1))", "(fun g () (ret 0) (ret 0))", "(fun g (a) (if a ((ret 0)) ((ret 1))) (ret 2))", "(export g ((sec a)) (ret 0))",
			"(fun g () (ret k))", "(fun g ((ptr p 1)) (ret p))", "(fun g () (set k 1) (ret 0))", "(fun g () (for k 2) (ret 0))", "(fun g () (for i 2 (set i 1)) (ret 0))", "(fun g () (for i 2 (for i 2)) (ret 0))",
			"(fun g () (ret (call pub)))", "(fun g () (ret (call pub 1 2)))", "(fun g ((ptr p 2)) (ret (call at p 1)))", "(fun g () (ret (call at 0 1)))", "(fun g () (ret (call at k 1)))",
		},
		api.Secret: {
			"(export g () (ret (get k 0)))", "(fun g () (ret (get k (get k 0))))", "(fun g () (if (get k 0) () ()) (ret 0))", "(fun g () (put k (get k 0) 0) (ret 0))", "(fun g ((ptr p 1)) (put p 0 (get k 0)) (ret 0))",
			"(fun g ((sec a)) (ret (divu a 1)))", "(fun g ((sec a)) (ret (remu 1 a)))", "(fun g ((sec a)) (ret (call pub a)))", "(export g () (ret (call id 1)))",
		},
		api.Size: {
			"(fun g () (for i 64 (for j 64)) (ret 0))", "(export g () (for i 64 (for j 60 (set x 1))) (ret 0))", "(fun g () (for i 60 (for j 60)) (ret 0)) (fun h () (ret (add (call g) (call g))))",
		},
	}
}

// TestWrongSources: no function of a source may be called that isn't right, those neither that are right themselves.
func TestWrongSources(t *testing.T) {
	w := world(count(8), count(4))
	right := parsed(t, wrongHead)
	for f, args := range [][]uint64{{1}, {1}, {5, 2}, nil} {
		wantAsSlow(t, right, f, args, w)
	}
	for code, items := range wrongSources() {
		for _, item := range items {
			p := parsed(t, wrongHead+item)
			if got := sec.Check(p); got != code {
				t.Errorf("the test is wrong: %s: %d; want %d", item, got, code)
			}
			for f, x := range p.Funcs {
				wantArg(t, p, f, make([]uint64, len(x.Params)), w)
			}
		}
	}
	for _, s := range []string{"(secret k 1) (secret k 1) (fun f () (ret 0))", "(secret f 1) (secret k 1) (fun f () (ret 0))"} {
		wantArg(t, parsed(t, s), 0, nil, world(nil, row(1), row(1)))
	}
}

// TestTreesOfNoSource: a tree that no source has may not be run.
func TestTreesOfNoSource(t *testing.T) {
	for i, change := range []func(p *api.Prog){
		func(p *api.Prog) { p.Funcs[3].Name = "" },
		func(p *api.Prog) { p.Funcs[3].Name = "7" },
		func(p *api.Prog) { p.Funcs[0].Name = strings.Repeat("a", api.MaxName+1) },
		func(p *api.Prog) { p.Secrets[0].Name = "" },
		func(p *api.Prog) { p.Funcs[3].Body[0].Kind = 5 },
		func(p *api.Prog) { p.Funcs[3].Body[0].Kind = -1 },
		func(p *api.Prog) { p.Funcs[3].Body[0].Name = "x" },
		func(p *api.Prog) { p.Funcs[3].Body[0].Num = 1 },
		func(p *api.Prog) { p.Funcs[3].Body[0].Args = nil },
		func(p *api.Prog) { p.Funcs[3].Body[0].Args = make([]api.Expr, 2) },
		func(p *api.Prog) { p.Funcs[3].Body[0].Then = p.Funcs[0].Body },
		func(p *api.Prog) { p.Funcs[3].Body[0].Args[0].Kind = 7 },
		func(p *api.Prog) { p.Funcs[3].Body[0].Args[0].Kind = -1 },
		func(p *api.Prog) { p.Funcs[3].Body[0].Args[0].Name = "x" },
		func(p *api.Prog) { p.Funcs[3].Body[0].Args[0] = api.Expr{Kind: api.EVar} },
		func(p *api.Prog) { p.Funcs[3].Body[0].Args[0] = api.Expr{Kind: api.EVar, Name: "x", Num: 1} },
		func(p *api.Prog) {
			p.Funcs[3].Body[0].Args[0] = api.Expr{Kind: api.EOp, Num: api.Mulhu, Args: make([]api.Expr, 2)}
		},
		func(p *api.Prog) {
			p.Funcs[3].Body[0].Args[0] = api.Expr{Kind: api.EOp, Num: all, Args: make([]api.Expr, 2)}
		},
		func(p *api.Prog) {
			p.Funcs[3].Body[0].Args[0] = api.Expr{Kind: api.EOp, Num: api.Add, Args: make([]api.Expr, 1)}
		},
		func(p *api.Prog) { p.Funcs[3].Body[0].Args[0] = api.Expr{Kind: api.ESel, Args: make([]api.Expr, 2)} },
		func(p *api.Prog) {
			p.Funcs[3].Body = append([]api.Stmt{{Kind: api.SFor, Name: "i", Num: 65}}, p.Funcs[3].Body...)
		},
		func(p *api.Prog) {
			p.Funcs[3].Body = append([]api.Stmt{{Kind: api.SFor, Name: "i"}}, p.Funcs[3].Body...)
		},
		func(p *api.Prog) {
			p.Funcs[3].Body = append([]api.Stmt{{Kind: api.SFor, Name: "i", Num: -1}}, p.Funcs[3].Body...)
		},
		func(p *api.Prog) { p.Funcs[0].Params[0].Kind = 3 },
		func(p *api.Prog) { p.Funcs[0].Params[0].Len = 1 },
		func(p *api.Prog) { p.Funcs[2].Params[0].Len = 0 },
		func(p *api.Prog) { p.Funcs[2].Params[0].Len = 65 },
		func(p *api.Prog) { p.Funcs[2].Params[0].Len = -1 },
		func(p *api.Prog) { p.Funcs = slices.Concat(p.Funcs, make([]api.Func, 29)) },
	} {
		p := parsed(t, wrongHead)
		change(&p)
		if got := sec.Check(p); got != api.Arg {
			t.Errorf("the test is wrong: %d: %d", i, got)
		}
		for f, x := range p.Funcs[:4] {
			wantArg(t, p, f, make([]uint64, len(x.Params)), world(count(100), count(4)))
		}
	}
	// A world that has just as many words as a secret array that may not be.
	for _, n := range []int{0, 65, 100} {
		p := parsed(t, wrongHead)
		p.Secrets[0].Len = n
		wantArg(t, p, 3, nil, world(nil, make([]uint64, n)))
	}
	for _, n := range []int{-1, -1 << 63, 1<<63 - 1} {
		p := parsed(t, wrongHead)
		p.Secrets[0].Len = n
		for _, w := range []api.World{world(nil), world(nil, nil), world(nil, row(1))} {
			wantArg(t, p, 3, nil, w)
		}
	}
	for _, n := range []int{-1, 0, -1 << 63, -1<<63 + 8, 1<<63 - 1, 65} {
		p := parsed(t, wrongHead)
		p.Funcs[2].Params[0].Len = n
		for _, at := range []uint64{0, 1, 5, 8, 9, 1 << 63, all} {
			for _, shared := range []int{0, 8, 512} {
				wantArg(t, p, 2, row(at, 0), world(count(shared), count(4)))
			}
		}
	}
	p := api.Prog{}
	for _, f := range noFunctions(0) {
		wantArg(t, p, f, nil, api.World{})
	}
}

// TestTreesThatHoldThemselves: they are far greater than the room that they take, or have no end.
func TestTreesThatHoldThemselves(t *testing.T) {
	p := parsed(t, "(fun f () (for i 64 (for j 1)) (ret 0))")
	p.Funcs[0].Body[0].Then[0].Then = p.Funcs[0].Body[:1]
	wantArg(t, p, 0, nil, api.World{})
	p = parsed(t, "(fun f () (ret (open 1)))")
	e := p.Funcs[0].Body[0].Args
	e[0].Args = e
	wantArg(t, p, 0, nil, api.World{})
	e = []api.Expr{{Kind: api.ENum}}
	for range 21 {
		e = []api.Expr{{Kind: api.ECall, Name: "g", Args: slices.Repeat(e, 6)}}
	}
	p = parsed(t, "(fun g (a b c d e g) (ret 0)) (fun f () (ret 0))")
	p.Funcs[1].Body[0].Args = e
	wantArg(t, p, 1, nil, api.World{})
	// One list in many places, in a function that isn't too dear.
	p = parsed(t, "(export f () (set x (add (open x) 1)) (for i 3) (if i () ()) (ret x))")
	body := p.Funcs[0].Body
	body[1].Then, body[2].Then, body[2].Else = body[:1], body[:2], body[:1]
	if got := wantAsSlow(t, p, 0, nil, api.World{}); got.Value != 1+3+1+3 || len(got.Opened) != 8 {
		t.Errorf("P12.1: %v", got)
	}
}

// TestLongSources: a tree whose source would be too long may be run, since it is right.
func TestLongSources(t *testing.T) {
	name := strings.Repeat("n", api.MaxName)
	p := parsed(t, "(export f ("+name+") (ret "+name+"))")
	add := parsed(t, "(export f ("+name+") (set "+name+" (add 1 "+name+")) (ret 0))").Funcs[0].Body[:1]
	p.Funcs[0].Body = slices.Concat(slices.Repeat(add, 900), p.Funcs[0].Body)
	if got := wantAsSlow(t, p, 0, row(5), api.World{}); got.Value != 905 {
		t.Errorf("P12.1: %v", got)
	}
}

// TestFunctionsThatAreNotThere: below 0, and beyond the last.
func TestFunctionsThatAreNotThere(t *testing.T) {
	for n := 1; n <= 32; n++ {
		s := ""
		for i := range n {
			s += fmt.Sprintf("(%s f%d () (ret %d))", []string{"fun", "export"}[i%2], i, i)
		}
		p := parsed(t, s)
		for f := range n {
			if got := wantAsSlow(t, p, f, nil, api.World{}); got.Value != uint64(f) {
				t.Errorf("P12.1: function %d: %d", f, got.Value)
			}
		}
		for _, f := range noFunctions(n) {
			if f < 0 || f >= n {
				wantArg(t, p, f, nil, api.World{})
			}
		}
	}
}

// TestWrongArguments: a call has as many as parameters.
func TestWrongArguments(t *testing.T) {
	names := []string{"a", "b", "c", "d", "e", "g"}
	for n := range 7 {
		for kind, form := range []string{"%s", "(sec %s)", "(ptr %s 1)"} {
			s := "(fun f ("
			for _, name := range names[:n] {
				s += fmt.Sprintf(form, name) + " "
			}
			p := parsed(t, s+") (ret 1))")
			for m := range 9 {
				if m == n {
					wantAsSlow(t, p, 0, make([]uint64, m), world(row(1)))
				} else {
					wantArg(t, p, 0, make([]uint64, m), world(row(1)))
				}
			}
			if p.Funcs[0].Out = true; kind != api.SecWord || n == 0 {
				wantArg(t, p, 0, make([]uint64, n+1), world(row(1)))
			}
		}
	}
	wantArg(t, parsed(t, "(fun f () (ret 1))"), 0, make([]uint64, 1000), world(nil))
}

// TestWrongPointers: one beyond the shared words, at the first place where it doesn't fit, or far greater.
func TestWrongPointers(t *testing.T) {
	for _, shared := range []int{0, 1, 2, 3, 63, 64, 65, 128, 511, 512} {
		for _, n := range []int{1, 2, 3, 32, 63, 64} {
			p := parsed(t, fmt.Sprintf("(export f ((ptr p %d)) (ret (get p %d)))", n, n-1))
			q := parsed(t, fmt.Sprintf("(export f (a (ptr p 1) (ptr q %d) b) (ret (add a (add b (get q 0)))))", n))
			w := world(count(shared))
			last := shared - n // where it may be
			if last >= 0 {
				wantAsSlow(t, p, 0, row(uint64(last)), w)
				wantAsSlow(t, q, 0, row(all, 0, uint64(last), all), w)
			}
			for _, at := range []uint64{uint64(max(last+1, 0)), uint64(max(last+2, 0)), uint64(shared), uint64(shared) + 1, 512, 513, 1 << 16, 1<<32 - 1, 1 << 32, 1<<32 + 1, 1 << 61, 1<<61 + 1, 1<<63 - 1, 1 << 63, 1<<63 + 1, all - 64, all - 63, all - uint64(n), all - uint64(n) + 1, all - 1, all} {
				wantArg(t, p, 0, row(at), w)
				wantArg(t, q, 0, row(0, 0, at, 0), w)
			}
			if last < 0 {
				wantArg(t, p, 0, row(0), w)
			}
		}
	}
	// Each of six pointers is looked at.
	p := parsed(t, "(fun f ((ptr a 1) (ptr b 2) (ptr c 3) (ptr d 4) (ptr e 5) (ptr g 6)) (ret 0))")
	lasts := row(9, 8, 7, 6, 5, 4)
	wantAsSlow(t, p, 0, lasts, world(count(10)))
	for i := range lasts {
		args := slices.Clone(lasts)
		args[i]++
		wantArg(t, p, 0, args, world(count(10)))
		wantAsSlow(t, p, 0, args, world(count(11)))
		wantArg(t, p, 0, lasts, world(count(9)))
	}
	// What isn't a pointer may be any word.
	wantValue(t, "(fun f (a (sec b)) (ret (and a b)))", row(all, all), world(nil), all)
}

// TestWrongWorlds: too many, too few, too long and too short secret arrays, arrays in another order, and too many shared words.
func TestWrongWorlds(t *testing.T) {
	p := parsed(t, "(secret a 2) (secret b 3) (secret c 2) (export f () (ret 1))")
	two, three := row(1, 2), row(1, 2, 3)
	wantAsSlow(t, p, 0, nil, world(nil, two, three, two))
	for _, l := range [][][]uint64{
		nil, {}, {two}, {two, three}, {two, three, two, nil}, {two, three, two, two}, {nil, two, three, two},
		{three, two, two}, {two, two, three}, {three, three, two}, {two, two, two}, {two, three, three}, {two, three, two[:1]}, {two[:1], three, two}, {two, three, nil}, {nil, three, two}, {two, nil, two}, {two, three[:0], two}, {nil, nil, nil},
		{two, count(4), two}, {count(64), three, two}, {two, three, count(65)}, {count(7)},
	} {
		wantArg(t, p, 0, nil, world(nil, l...))
		wantArg(t, p, 0, nil, world(count(8), l...))
	}
	for _, n := range []int{1, 2, 63, 64} {
		p := parsed(t, fmt.Sprintf("(secret k %d) (fun f () (ret (get k %d)))", n, n-1))
		for m := range 130 {
			if m == n {
				wantAsSlow(t, p, 0, nil, world(nil, count(m)))
			} else {
				wantArg(t, p, 0, nil, world(nil, count(m)))
			}
		}
	}
	p = parsed(t, "(export f (a) (ret a))")
	wantArg(t, p, 0, row(1), world(nil, nil))
	wantArg(t, p, 0, row(1), world(nil, row(1)))
	for _, n := range []int{0, 1, 511, 512} {
		wantAsSlow(t, p, 0, row(1), world(count(n)))
	}
	for _, n := range []int{513, 514, 600, 1024, 4096, 65536} {
		wantArg(t, p, 0, row(1), world(count(n)))
		wantArg(t, parsed(t, "(export f ((ptr p 1)) (ret 0))"), 0, row(1), world(count(n)))
	}
	// Spare room doesn't count.
	wantAsSlow(t, p, 0, row(1), world(count(600)[:512]))
	wantArg(t, parsed(t, "(export f ((ptr p 4)) (ret 0))"), 0, row(0), world(count(4)[:3]))
	wantArg(t, parsed(t, "(secret k 4) (export f () (ret 0))"), 0, nil, world(nil, count(4)[:3]))
}

// slowMay tells by the chapter's own words whether a call may be.
func slowMay(p api.Prog, f int, args []uint64, w api.World) bool {
	if sec.Check(p) != api.OK || f < 0 || f >= len(p.Funcs) || len(args) != len(p.Funcs[f].Params) || len(w.Secrets) != len(p.Secrets) || len(w.Shared) > 512 {
		return false
	}
	for i, a := range p.Secrets {
		if len(w.Secrets[i]) != a.Len {
			return false
		}
	}
	for i, x := range p.Funcs[f].Params {
		behind := new(big.Int).Add(unsigned(args[i]), big.NewInt(int64(x.Len)))
		if x.Kind == api.Pointer && behind.Cmp(big.NewInt(int64(len(w.Shared)))) > 0 {
			return false
		}
	}
	return true
}

// TestChangedCalls changes one thing in calls that may be: it may be, or it is Arg.
func TestChangedCalls(t *testing.T) {
	m := maker{newRand(1201)}
	may, not := 0, 0
	try := func(p api.Prog, f int, args []uint64, w api.World) {
		if slowMay(p, f, args, w) {
			may++
			wantAsSlow(t, p, f, args, w)
		} else {
			not++
			wantArg(t, p, f, args, w)
		}
	}
	for range 600 {
		p := m.prog()
		f := m.Intn(len(p.Funcs))
		w := m.world(p)
		args, ok := m.args(p.Funcs[f], w)
		if !ok {
			wantArg(t, p, f, make([]uint64, len(p.Funcs[f].Params)), w)
			continue
		}
		try(p, f, args, w)
		try(p, f-1, args, w)
		try(p, f+1, args, w)
		try(p, f, append(slices.Clone(args), 0), w)
		for i := range args {
			try(p, f, slices.Delete(slices.Clone(args), i, i+1), w)
			for _, v := range []uint64{args[i] + 1, args[i] - 1, args[i] + 2, 0, m.number(), all} {
				other := slices.Clone(args)
				other[i] = v
				try(p, f, other, w)
			}
		}
		for i := range w.Secrets {
			for _, n := range []int{0, len(w.Secrets[i]) - 1, len(w.Secrets[i]) + 1} {
				other := copied(w)
				other.Secrets[i] = count(n)
				try(p, f, args, other)
			}
			other := copied(w)
			other.Secrets[0], other.Secrets[i] = other.Secrets[i], other.Secrets[0]
			try(p, f, args, other)
			other.Secrets = other.Secrets[1:]
			try(p, f, args, other)
		}
		for _, n := range []int{len(w.Shared) - 1, len(w.Shared) + 1, 0, 512, 513} {
			if n >= 0 {
				try(p, f, args, api.World{Secrets: w.Secrets, Shared: count(n)})
			}
		}
	}
	if may < 3000 || not < 3000 {
		t.Errorf("the test is wrong: %d, %d", may, not)
	}
}

// TestMayHangsOnTheCallAlone asks again and again, with wrong calls between.
func TestMayHangsOnTheCallAlone(t *testing.T) {
	p := parsed(t, wrongHead)
	w := world(count(8), count(4))
	for range 3 {
		wantAsSlow(t, p, 2, row(5, 2), w)
		wantArg(t, p, 2, row(6, 2), w)
		wantArg(t, p, 2, row(5, 2), world(count(7), count(4)))
		if !sem.May(p, 2, row(5, 2), w) || sem.May(p, 4, nil, w) {
			t.Error("P12.1: it hangs on something else")
		}
	}
}
