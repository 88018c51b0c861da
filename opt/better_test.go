package opt_test

import (
	"testing"

	"caponier/api"
	"caponier/opt"
)

// TestRounds: lines that have to be folded and swept once, or several times, till nothing changes.
func TestRounds(t *testing.T) {
	wantBetter(t, "as good as may be", 0, row(ret(1)), row(ret(1)))
	wantBetter(t, "as good as may be", 0, row(number(4, 5), open(4), load(5, 2), label(1), zero(5, 1), ret(4)), row(number(4, 5), open(4), load(5, 2), label(1), zero(5, 1), ret(4)))
	wantBetter(t, "swept alone", 1, row(number(4, 5), ret(1)), row(ret(1)))
	wantBetter(t, "folded alone", 1, row(number(4, 0), zero(4, 1), label(1), ret(4)), row(number(4, 0), jump(1), label(1), ret(4)))
	wantBetter(t, "folded, and swept", 1, row(number(4, 3), number(5, 4), two(api.Add, 6, 4, 5), ret(6)), row(number(6, 7), ret(6)))
	wantBetter(t, "a label that goes lets more be known", 2, row(number(4, 1), zero(4, 1), label(1), copied(5, 4), ret(5)), row(number(5, 1), ret(5)))
	wantBetter(t, "one behind the other", 4, row(number(4, 1), zero(4, 1), label(1), zero(4, 2), label(2), zero(4, 3), label(3), copied(5, 4), ret(5)), row(number(5, 1), ret(5)))
	wantBetter(t, "what a jump jumps over", 2, row(number(4, 0), zero(4, 1), open(1), zero(1, 2), label(2), zero(3, 3), open(3), label(1), number(5, 9), zero(5, 3), label(3), ret(5)), row(jump(1), label(1), number(5, 9), ret(5)))
	wantBetter(t, "a loop to which none leads stays", 1, row(number(4, 0), zero(4, 1), open(1), label(2), zero(4, 2), open(3), label(1), number(5, 9), ret(5)), row(number(4, 0), jump(1), label(2), zero(4, 2), open(3), label(1), number(5, 9), ret(5)))
	wantBetter(t, "a label that is named on either side", 1, row(number(4, 0), zero(4, 1), zero(1, 2), label(2), zero(2, 1), label(1), zero(3, 2), ret(4)), row(number(4, 0), jump(1), label(2), zero(2, 1), label(1), zero(3, 2), ret(4)))
	wantBetter(t, "a label to which no line leads ahead of it", 2, row(number(4, 2), zero(4, 1), number(5, 3), jump(2), label(1), number(5, 4), label(2), open(5), ret(4)), row(number(4, 2), number(5, 3), jump(2), label(2), open(5), ret(4)))
	wantBetter(t, "a loop without an end", 1, row(label(1), number(4, 0), zero(4, 1), open(4), ret(4)), row(label(1), number(4, 0), jump(1), ret(4)))
	wantBetter(t, "what varies, nobody asks for", 1, row(number(4, 7), two(api.Divu, 5, 4, 4), two(api.Remu, 6, 5, 4), ret(1)), row(ret(1)))
	wantBetter(t, "what varies, one asks for", 1, row(number(4, 7), copied(5, 4), two(api.Divu, 6, 4, 5), ret(6)), row(number(4, 7), number(5, 7), two(api.Divu, 6, 4, 5), ret(6)))
	wantBetter(t, "what is opened, stored, loaded and called stays", 1, row(number(4, 7), copied(5, 4), open(5), store(2, 5), load(6, 2), call(7, "both", 5, 4), call(8, "none"), ret(5)), row(number(4, 7), number(5, 7), open(5), store(2, 5), load(6, 2), call(7, "both", 5, 4), call(8, "none"), ret(5)))
	wantBetter(t, "in another routine it isn't known", 0, row(call(4, "both", 1, 3), zero(4, 1), label(1), ret(4)), row(call(4, "both", 1, 3), zero(4, 1), label(1), ret(4)))
}

// rounds are lines that have to be folded and swept so many times, each of which lets one label go, from the last to the first.
func rounds(n int) []api.Line {
	var l []api.Line
	for k := n; k > 1; k-- {
		l = append(l, number(k, 5), label(uint64(k)), zero(k, uint64(k+1)))
	}
	return append(l, number(1, 5), zero(1, 2), label(uint64(n+1)), number(1, 7), ret(1))
}

// TestManyRounds: as many as 20000 lines may need, or nearly.
func TestManyRounds(t *testing.T) {
	p := parsed(t, "(fun f () (ret 1))")
	for _, n := range []int{2, 3, 4, 10, 30} {
		l, times := wantAll(t, "many rounds", []api.Routine{routine("f", 0, n, rounds(n)...)}, p)
		if texts(l) != text(routine("f", 0, n, number(1, 5), number(1, 7), ret(1))) || times < n {
			t.Errorf("P15.2: %d, %s", times, few(texts(l)))
		}
	}
	r := routine("f", 0, 6665, rounds(6665)...)
	if len(r.Lines) < 19990 || len(r.Lines) > 20000 {
		t.Errorf("the test is wrong: %d", len(r.Lines))
	}
	l, e := opt.All([]api.Routine{r}, p)
	if e != api.OK || texts(l) != text(routine("f", 0, 6665, number(1, 5), number(1, 7), ret(1))) {
		t.Errorf("P15.2: %d, %s", e, few(texts(l)))
	}
}
