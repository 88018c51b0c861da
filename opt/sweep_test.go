package opt_test

import (
	"fmt"
	"testing"

	"caponier/api"
	"caponier/opt"
)

// TestBehindJumps: lines between a jump and the next label are left out, but the return at the end.
func TestBehindJumps(t *testing.T) {
	wantSweep(t, "no lines", nil, nil)
	wantSweep(t, "no jump", row(open(1), open(2), ret(1)), row(open(1), open(2), ret(1)))
	for _, x := range kinds() {
		if x.Op != api.LLabel {
			wantSweep(t, "one line", row(jump(1), x, label(1), ret(1)), row(jump(1), label(1), ret(1)))
			wantSweep(t, "a line on either side", row(label(1), open(1), jump(1), x, label(2), zero(1, 2), ret(1)), row(label(1), open(1), jump(1), label(2), zero(1, 2), ret(1)))
		}
		if x.Op != api.LJump && x.Op != api.LLabel {
			same := row(x, open(2), label(1), zero(4, 1), ret(4))
			wantSweep(t, "behind what is no jump", same, same)
		}
	}
	wantSweep(t, "all of them", row(jump(1), open(1), store(1, 2), open(2), label(1), open(1), ret(1)), row(jump(1), label(1), open(1), ret(1)))
	wantSweep(t, "two jumps", row(jump(1), open(1), jump(2), open(2), label(1), open(1), jump(1), open(2), label(2), zero(1, 2), ret(1)), row(jump(1), label(1), open(1), jump(1), label(2), zero(1, 2), ret(1)))
	wantSweep(t, "to the next line", row(open(1), jump(1), label(1), open(2), ret(1)), row(open(1), jump(1), label(1), open(2), ret(1)))
	wantSweep(t, "the return at the end", row(label(1), open(1), jump(1), ret(1)), row(label(1), open(1), jump(1), ret(1)))
	wantSweep(t, "and what is ahead of it", row(label(1), open(1), jump(1), open(2), zero(1, 1), jump(1), ret(1)), row(label(1), open(1), jump(1), ret(1)))
	wantSweep(t, "what it asks for stays", row(number(3, 1), number(4, 1), label(1), jump(1), number(3, 2), open(4), ret(3)), row(number(3, 1), label(1), jump(1), ret(3)))
	wantSweep(t, "a return that isn't at the end", row(jump(1), ret(1), label(1), ret(2)), row(jump(1), label(1), ret(2)))
	wantSweep(t, "returns ahead of the one at the end", row(label(1), jump(1), ret(1), ret(1), ret(1)), row(label(1), jump(1), ret(1)))
	wantSweep(t, "behind a return", row(ret(1), open(1), ret(2)), row(ret(1), open(1), ret(2)))
	wantSweep(t, "no return at the end", row(label(1), jump(1), ret(1), open(1)), row(label(1), jump(1)))
	wantSweep(t, "a jump at the end", row(label(1), open(1), jump(1)), row(label(1), open(1), jump(1)))
	wantSweep(t, "two at the end", row(label(1), jump(1), jump(1)), row(label(1), jump(1)))
	wantSweep(t, "a label at the end", row(label(1), jump(1), open(1), label(2), zero(1, 2)), row(label(1), jump(1), label(2), zero(1, 2)))
	wantSweep(t, "a jump alone", row(jump(1)), row(jump(1)))
	wantSweep(t, "a return alone", row(ret(1)), row(ret(1)))
	// Behind a label that goes, lines stay, till it is swept once more.
	from, once, twice := row(jump(1), open(1), label(2), open(2), label(1), ret(1)), row(jump(1), open(2), label(1), ret(1)), row(jump(1), label(1), ret(1))
	wantSweep(t, "a label that goes", from, once)
	wantSweep(t, "a label that is gone", once, twice)
	wantBetter(t, "a label that goes", 2, from, twice)
}

// TestNamedLabels: labels that one line, several lines, and no line name.
func TestNamedLabels(t *testing.T) {
	wantSweep(t, "none", row(label(1), label(2), open(1), label(3), ret(1)), row(open(1), ret(1)))
	for _, n := range []uint64{0, 1, 2, 1 << 32, least, all} {
		for _, x := range row(jump(n), zero(1, n)) {
			wantSweep(t, "one ahead", row(x, label(n), label(n+1), ret(1)), row(x, label(n), ret(1)))
			wantSweep(t, "one behind", row(label(n-1), label(n), x, ret(1)), row(label(n), x, ret(1)))
			wantSweep(t, "several", row(x, label(n), x, label(n+1), x, label(n+2), zero(1, n+2), ret(1)), row(x, label(n), x, x, label(n+2), zero(1, n+2), ret(1)))
			wantSweep(t, "a label twice", row(zero(1, n), label(n), open(1), label(n), label(n+1), ret(1)), row(zero(1, n), label(n), open(1), label(n), ret(1)))
			wantSweep(t, "one that isn't there", row(x, label(n+1), ret(1)), row(x, ret(1)))
		}
		wantSweep(t, "the number of another kind", row(number(3, n), two(n, 4, 1, 2), open(3), open(4), loose(open(1), func(x *api.Line) { x.Num = n }), label(n), ret(1)), row(number(3, n), two(n, 4, 1, 2), open(3), open(4), loose(open(1), func(x *api.Line) { x.Num = n }), ret(1)))
	}
	wantSweep(t, "one that is left out", row(jump(1), zero(1, 2), jump(2), label(1), open(1), label(2), ret(1)), row(jump(1), label(1), open(1), ret(1)))
	wantSweep(t, "one that is left out, and one that isn't", row(jump(1), jump(2), label(1), open(1), label(2), zero(1, 2), ret(1)), row(jump(1), label(1), open(1), label(2), zero(1, 2), ret(1)))
	wantSweep(t, "itself", row(label(1), jump(1), ret(1)), row(label(1), jump(1), ret(1)))
}

// TestAskedFor: lines whose D no line has as A, B, or one of Args, of the four kinds; others stay.
func TestAskedFor(t *testing.T) {
	for op, x := range kinds() {
		stays := row(number(1, 3), number(2, 4), x, label(1), jump(1), open(1), ret(2))
		wanted := lines(number(1, 3), number(2, 4), x, label(1), jump(1), ret(2))
		switch op {
		case api.LConst, api.LTwo, api.LCopy, api.LAddr:
			wanted = row(number(2, 4), label(1), jump(1), ret(2))
		case api.LLabel, api.LJump: // there is one already
			continue
		}
		wantSweep(t, fmt.Sprint("nobody asks for what it sets, ", op), stays, wanted)
		if x.D != 0 {
			asks := row(x, open(4), ret(3))
			wantSweep(t, fmt.Sprint("one asks for what it sets, ", op), asks, asks)
		}
	}
	// Each place in which a line asks.
	for _, x := range row(two(api.Add, 4, 3, 1), two(api.Add, 4, 1, 3), two(api.Add, 4, 3, 3), copied(4, 3), load(4, 3), store(3, 1), store(1, 3), zero(3, 1), call(4, "g", 3), call(4, "g", 1, 2, 5, 6, 7, 3), open(3), ret(3)) {
		same := row(addr(3, "k"), x, label(1), jump(1), ret(4))
		wantSweep(t, "each place", same, same)
		other := row(addr(8, "k"), x, label(1), jump(1), ret(4))
		wantSweep(t, "another register", other, other[1:])
	}
	wantSweep(t, "itself", row(two(api.Add, 3, 3, 1), two(api.Add, 4, 1, 4), copied(5, 5), ret(1)), row(two(api.Add, 3, 3, 1), two(api.Add, 4, 1, 4), copied(5, 5), ret(1)))
	wantSweep(t, "one another", row(copied(3, 4), copied(4, 3), two(api.Add, 5, 3, 4), ret(1)), row(copied(3, 4), copied(4, 3), ret(1)))
	wantSweep(t, "set twice", row(number(3, 1), number(3, 2), open(3), number(4, 1), addr(4, "k"), two(api.Div, 4, 1, 2), ret(1)), row(number(3, 1), number(3, 2), open(3), ret(1)))
	wantSweep(t, "set twice, once by a load", row(number(3, 1), load(3, 1), number(3, 2), ret(1)), row(load(3, 1), ret(1)))
	wantSweep(t, "asked for ahead only", row(open(3), number(3, 1), ret(1)), row(open(3), number(3, 1), ret(1)))
	wantSweep(t, "asked for by what is left out", row(number(3, 1), jump(1), open(3), label(1), ret(1)), row(jump(1), label(1), ret(1)))
	wantSweep(t, "a parameter", row(number(1, 5), number(2, 5), ret(1)), row(number(1, 5), ret(1)))
	wantSweep(t, "what varies", row(two(api.Div, 3, 1, 2), two(api.Divu, 4, 1, 2), two(api.Rem, 5, 1, 2), two(api.Remu, 6, 1, 2), ret(1)), row(ret(1)))
	wantSweep(t, "no operation", row(two(77, 3, 1, 2), two(all, 4, 1, 2), ret(1)), row(ret(1)))
	wantSweep(t, "registers in Args alone", row(number(3, 1), number(4, 1), number(5, 1), call(6, "g", 3, 4), ret(1)), row(number(3, 1), number(4, 1), call(6, "g", 3, 4), ret(1)))
}

// TestChains: lines whose registers nobody asks for but such lines, in either order, as many as may be.
func TestChains(t *testing.T) {
	wantSweep(t, "a chain", row(number(3, 1), copied(4, 3), two(api.Add, 5, 4, 3), copied(6, 5), two(api.Mul, 7, 6, 1), ret(1)), row(ret(1)))
	wantSweep(t, "a chain that stays", row(number(3, 1), copied(4, 3), two(api.Add, 5, 4, 3), copied(6, 5), ret(6)), row(number(3, 1), copied(4, 3), two(api.Add, 5, 4, 3), copied(6, 5), ret(6)))
	wantSweep(t, "a fork", row(number(3, 1), copied(4, 3), copied(5, 3), two(api.Add, 6, 4, 5), copied(7, 4), ret(4)), row(number(3, 1), copied(4, 3), ret(4)))
	wantSweep(t, "the other way round", row(copied(7, 6), copied(6, 5), copied(5, 4), copied(4, 3), number(3, 1), ret(1)), row(ret(1)))
	wantSweep(t, "to a load", row(number(3, 1), copied(4, 3), load(5, 4), copied(6, 5), copied(7, 6), ret(1)), row(number(3, 1), copied(4, 3), load(5, 4), ret(1)))
	for _, n := range []int{10, 1000, 19999} {
		var there, back []api.Line
		for i := range n - 1 {
			there, back = append(there, copied(i+2, i+1)), append(back, copied(i+1, i+2))
		}
		for _, chain := range [][]api.Line{append(row(number(1, 5)), there...), append(back, number(n, 5))} {
			r := routine("f", 0, n+1, append(chain, ret(n+1))...)
			wantDone(t, "a long chain", opt.Sweep, r, routine("f", 0, n+1, ret(n+1)))
		}
		// One that is asked for stays, and can be folded.
		r, want := routine("f", 0, n, lines(number(1, 5), there, ret(n))...), routine("f", 0, n)
		wantDone(t, "a long chain", opt.Sweep, r, r)
		for i := range n {
			want.Lines = append(want.Lines, number(i+1, 5))
		}
		want.Lines = append(want.Lines, ret(n))
		wantDone(t, "a long chain", opt.Fold, r, want)
		l, e := opt.All([]api.Routine{r}, parsed(t, "(fun f () (ret 1))"))
		if e != api.OK || texts(l) != text(routine("f", 0, n, number(n, 5), ret(n))) {
			t.Errorf("P15.2: a chain of %d: %d, %s", n, e, few(texts(l)))
		}
	}
}
