package opt_test

import (
	"fmt"
	"math"
	"strings"
	"testing"

	"caponier/api"
	"caponier/ir"
	"caponier/opt"
	"caponier/tree"
)

const (
	all   = uint64(math.MaxUint64)
	least = uint64(1) << 63 // the least signed number
)

// The lines, each kind.

func number(d int, n uint64) api.Line     { return api.Line{Op: api.LConst, D: d, Num: n} }
func two(op uint64, d, a, b int) api.Line { return api.Line{Op: api.LTwo, D: d, A: a, B: b, Num: op} }
func copied(d, a int) api.Line            { return api.Line{Op: api.LCopy, D: d, A: a} }
func addr(d int, name string) api.Line    { return api.Line{Op: api.LAddr, D: d, Name: name} }
func load(d, a int) api.Line              { return api.Line{Op: api.LLoad, D: d, A: a} }
func store(a, b int) api.Line             { return api.Line{Op: api.LStore, A: a, B: b} }
func jump(n uint64) api.Line              { return api.Line{Op: api.LJump, Num: n} }
func zero(a int, n uint64) api.Line       { return api.Line{Op: api.LZero, A: a, Num: n} }
func label(n uint64) api.Line             { return api.Line{Op: api.LLabel, Num: n} }
func call(d int, f string, l ...int) api.Line {
	return api.Line{Op: api.LCall, D: d, Name: f, Args: l}
}
func open(a int) api.Line { return api.Line{Op: api.LOpen, A: a} }
func ret(a int) api.Line  { return api.Line{Op: api.LRet, A: a} }

// row is lines, one behind the other.
func row(l ...api.Line) []api.Line { return l }

// lines puts lines, and rows of these, one behind the other.
func lines(l ...any) []api.Line {
	var out []api.Line
	for _, x := range l {
		switch x := x.(type) {
		case api.Line:
			out = append(out, x)
		case []api.Line:
			out = append(out, x...)
		}
	}
	return out
}

// routine is one of these lines.
func routine(name string, params, regs int, l ...api.Line) api.Routine {
	return api.Routine{Name: name, Params: params, Regs: regs, Lines: l}
}

// loose is a line with more than its kind has.
func loose(x api.Line, change func(x *api.Line)) api.Line {
	change(&x)
	return x
}

// setting is a line that sets a register, whatever its kind.
func setting(d int, x api.Line) api.Line {
	x.D = d
	return x
}

// few are a text's first characters, since some texts are great.
func few(s string) string {
	if len(s) > 3000 {
		return s[:3000] + ".."
	}
	return s
}

// short is a source in few characters.
func short(p api.Prog) string {
	s, e := tree.Print(p)
	if e != api.OK {
		return "a tree that can't be printed"
	}
	return few(s)
}

// parsed is a source's tree.
func parsed(t *testing.T, s string) api.Prog {
	t.Helper()
	p, e := tree.Parse(s)
	if e != api.OK {
		t.Fatalf("the test is wrong: %s: %d", s, e)
	}
	return p
}

// lowered are a right source's routines.
func lowered(t *testing.T, p api.Prog) []api.Routine {
	t.Helper()
	l, e := ir.Lower(p)
	if e != api.OK {
		t.Fatalf("the test is wrong: %s: %d", short(p), e)
	}
	return l
}

// wantDone wants what was done to a routine to be a routine, and this to be as it was.
func wantDone(t *testing.T, what string, do func(api.Routine) api.Routine, r, want api.Routine) {
	t.Helper()
	before := text(r)
	if got := do(r); text(got) != text(want) {
		t.Errorf("P15.1: %s:\n%s is\n%s; want\n%s", what, few(before), few(text(got)), few(text(want)))
	}
	if text(r) != before {
		t.Errorf("rule 3: %s: it was changed that was handed in", what)
	}
}

// wantFoldedSwept wants a routine to become what the tests' own way tells.
func wantFoldedSwept(t *testing.T, what string, r api.Routine) {
	t.Helper()
	wantDone(t, what+", folded", opt.Fold, r, slowFold(r))
	wantDone(t, what+", swept", opt.Sweep, r, slowSweep(r))
}

// wantFold wants lines of nine registers to be folded so, and the tests' own way to tell that, too.
func wantFold(t *testing.T, what string, from, to []api.Line) {
	t.Helper()
	r, want := routine("f", 2, 9, from...), routine("f", 2, 9, to...)
	if text(slowFold(r)) != text(want) {
		t.Errorf("the test is wrong: %s: %s", what, text(slowFold(r)))
	}
	wantDone(t, what, opt.Fold, r, want)
	wantDone(t, what+", swept", opt.Sweep, r, slowSweep(r))
}

// wantSweep wants lines of nine registers to be swept so, and the tests' own way to tell that, too.
func wantSweep(t *testing.T, what string, from, to []api.Line) {
	t.Helper()
	r, want := routine("f", 2, 9, from...), routine("f", 2, 9, to...)
	if text(slowSweep(r)) != text(want) {
		t.Errorf("the test is wrong: %s: %s", what, text(slowSweep(r)))
	}
	wantDone(t, what, opt.Sweep, r, want)
	wantDone(t, what+", folded", opt.Fold, r, slowFold(r))
}

// wantAll wants routines to be made better as the tests' own way does, and tells how many times it folded and swept.
func wantAll(t *testing.T, what string, l []api.Routine, p api.Prog) ([]api.Routine, int) {
	t.Helper()
	before := texts(l)
	want, times := slowAll(l)
	got, e := opt.All(l, p)
	if e != api.OK || texts(got) != texts(want) {
		t.Errorf("P15.2: %s: %d,\n%s are\n%s; want\n%s", what, e, few(before), few(texts(got)), few(texts(want)))
	}
	if texts(l) != before {
		t.Errorf("rule 3: %s: they were changed that were handed in", what)
	}
	if !ir.May(got, p) {
		t.Errorf("P15.3: %s: they may not be the source's:\n%s", what, few(texts(got)))
	}
	if again, e := opt.All(got, p); e != api.OK || texts(again) != texts(got) {
		t.Errorf("P15.3: %s: %d,\n%s made better again are\n%s", what, e, few(texts(got)), few(texts(again)))
	}
	return got, times
}

// bench is a source whose last function's lines may be any of nine registers, the first three parameters.
const bench = "(secret k 2) (secret l 3) (fun none () (ret 9)) (fun both (a b) (ret a)) (export f (a (ptr p 2) b) (ret a))"

// onBench are routines of bench that are as good as may be, but for the last one.
func onBench(l ...api.Line) []api.Routine {
	return []api.Routine{
		routine("none", 0, 1, number(1, 9), ret(1)),
		routine("both", 2, 3, two(api.Add, 3, 1, 2), ret(3)),
		routine("f", 3, 9, l...),
	}
}

// wantBetter wants lines of bench's last function to be made better to these, by so many times of folding and sweeping.
func wantBetter(t *testing.T, what string, times int, from, to []api.Line) {
	t.Helper()
	got, n := wantAll(t, what, onBench(from...), parsed(t, bench))
	if want := onBench(to...); texts(got) != texts(want) {
		t.Errorf("P15.2: %s: %s; want %s", what, texts(got), texts(want))
	}
	if n != times {
		t.Errorf("the test is wrong: %s: %d times; want %d", what, n, times)
	}
}

// TestExample is the chapter's, which is the README's too.
func TestExample(t *testing.T) {
	p := parsed(t, "(fun f () (ret 1))")
	from := row(number(2, 3), number(3, 4), two(api.Add, 4, 2, 3), ret(4))
	folded := routine("f", 0, 4, number(2, 3), number(3, 4), number(4, 7), ret(4))
	swept := routine("f", 0, 4, number(4, 7), ret(4))
	wantDone(t, "the example", opt.Fold, routine("f", 0, 4, from...), folded)
	wantDone(t, "the example", opt.Sweep, folded, swept)
	l, e := opt.All([]api.Routine{routine("f", 0, 4, from...)}, p)
	if e != api.OK || texts(l) != text(swept) {
		t.Errorf("P15.2: %d, %s", e, texts(l))
	}
	wantAll(t, "the example", l, p)
	// The README's.
	told := parsed(t, "(export f (a) (set x 3) (if (sub x 3) ((set a 1)) ()) (ret (mul a 4)))")
	long := lowered(t, told)
	l, _ = wantAll(t, "the README's", long, told)
	want := routine("f", 1, 8, jump(1), label(1), number(7, 4), two(api.Mul, 8, 1, 7), ret(8))
	folded = opt.Fold(long[0])
	if len(long[0].Lines) != 14 || len(folded.Lines) != 14 || text(opt.Sweep(folded)) != text(want) {
		t.Errorf("P15.1: %s", text(folded))
	}
	if texts(l) != text(want) {
		t.Errorf("P15.2: %s; want %s", texts(l), text(want))
	}
}

// known is a row behind which the register 1 is known to be 6, 2 to be 7, and 3 to be 0.
func known(l ...api.Line) []api.Line {
	return append(row(number(1, 6), number(2, 7), number(3, 0)), l...)
}

// kinds are lines, each of another kind, that ask for the registers 1 and 2, and set 4.
func kinds() []api.Line {
	return row(number(4, 5), two(api.Mul, 4, 1, 2), copied(4, 1), addr(4, "k"), load(4, 1), store(1, 2), jump(1), zero(1, 1), label(1), call(4, "g", 1, 2), open(1), ret(1))
}

// TestKinds: each kind of line, with registers that are known and with ones that aren't.
func TestKinds(t *testing.T) {
	wantFold(t, "no lines", nil, nil)
	wantFold(t, "no lines", row(), nil)
	for op, x := range kinds() {
		if x.Op != op {
			t.Fatalf("the test is wrong: %v", x)
		}
		wantFold(t, fmt.Sprint("unknown, ", op), row(x), row(x))
		wantFold(t, fmt.Sprint("others known, ", op), row(number(8, 1), number(9, 2), x), row(number(8, 1), number(9, 2), x))
		want := known(x)
		switch op {
		case api.LTwo:
			want[3] = number(4, 42)
		case api.LCopy:
			want[3] = number(4, 6)
		case api.LZero:
			want = want[:3]
		}
		wantFold(t, fmt.Sprint("known, ", op), known(x), want)
		// And what is known behind it: of 1 and 2 what was, of 4 what it is now.
		behind, wanted := row(copied(5, 1), copied(6, 2), copied(7, 4)), row(number(5, 6), number(6, 7), copied(7, 4))
		switch op {
		case api.LConst:
			wanted[2] = number(7, 5)
		case api.LTwo:
			wanted[2] = number(7, 42)
		case api.LCopy:
			wanted[2] = number(7, 6)
		case api.LStore, api.LJump, api.LZero, api.LOpen, api.LRet: // they have no D
			wanted[2] = number(7, 8)
		case api.LLabel:
			wanted = behind
		}
		wantFold(t, fmt.Sprint("behind, ", op), lines(number(4, 8), known(x), behind), lines(number(4, 8), want, wanted))
	}
	// One of both alone is known.
	for op := range uint64(16) {
		for _, x := range row(two(op, 4, 1, 5), two(op, 4, 5, 1), two(op, 4, 5, 5), two(op, 4, 5, 6)) {
			wantFold(t, "one of both", known(x), known(x))
		}
	}
}

// TestOperations: each of sixteen, of known numbers at which they turn; what varies stays.
func TestOperations(t *testing.T) {
	tried := map[uint64]int{}
	for _, c := range []struct {
		op      uint64
		a, b, v uint64
	}{
		{api.Add, 2, 3, 5}, {api.Add, all, 1, 0}, {api.Add, all, all, all - 1}, {api.Sub, 5, 3, 2}, {api.Sub, 0, 1, all}, {api.Sub, 0, all, 1}, {api.Sll, 3, 2, 12}, {api.Sll, 3, 65, 6}, {api.Sll, 1, 63, least}, {api.Sll, all, 64, all},
		{api.Slt, 3, 5, 1}, {api.Slt, 5, 3, 0}, {api.Slt, all, 0, 1}, {api.Slt, 0, all, 0}, {api.Slt, least, least - 1, 1}, {api.Sltu, 3, 5, 1}, {api.Sltu, all, 0, 0}, {api.Sltu, 0, all, 1}, {api.Sltu, 4, 4, 0},
		{api.Xor, 6, 3, 5}, {api.Xor, all, all, 0}, {api.Srl, 12, 2, 3}, {api.Srl, least, 63, 1}, {api.Srl, all, all, 1}, {api.Sra, 12, 2, 3}, {api.Sra, least, 63, all}, {api.Sra, all, 70, all}, {api.Or, 6, 3, 7}, {api.Or, 0, all, all}, {api.And, 6, 3, 2}, {api.And, all, 0, 0},
		{api.Mul, 6, 7, 42}, {api.Mul, all, all, 1}, {api.Mul, 1 << 32, 1 << 32, 0}, {api.Mulhu, 6, 7, 0}, {api.Mulhu, all, all, all - 1}, {api.Mulhu, 1 << 32, 1 << 32, 1},
	} {
		tried[c.op]++
		x, y := number(1, c.a), number(2, c.b)
		wantFold(t, "an operation", row(x, y, two(c.op, 3, 1, 2), copied(4, 3)), row(x, y, number(3, c.v), number(4, c.v)))
		for d := 1; d <= 2; d++ { // into one of its own registers
			wantFold(t, "an operation", row(x, y, two(c.op, d, 1, 2), copied(4, d)), row(x, y, number(d, c.v), number(4, c.v)))
		}
		if c.a == c.b {
			wantFold(t, "an operation of one register", row(x, two(c.op, 3, 1, 1)), row(x, number(3, c.v)))
		}
	}
	if len(tried) != 12 {
		t.Errorf("the test is wrong: %v", tried)
	}
	for _, op := range []uint64{api.Div, api.Divu, api.Rem, api.Remu} {
		for _, c := range [][2]uint64{{7, 2}, {7, 0}, {0, 0}, {least, all}, {all, 1}, {6, 6}} {
			same := row(number(1, c[0]), number(2, c[1]), number(3, 8), two(op, 3, 1, 2), copied(4, 3), two(api.Add, 5, 3, 1))
			wantFold(t, "an operation that varies", same, same)
		}
	}
	for _, op := range []uint64{16, 17, 25, 42, 43, 1 << 31, 1 << 32, 1<<32 + 1, 1 << 62, least, least + 1, all - 1, all} {
		same := row(number(1, 6), number(2, 7), number(3, 8), two(op, 3, 1, 2), copied(4, 3))
		wantFold(t, "what is no operation of two", same, same)
	}
}

// TestLoweredOperations: each of thirteen that sources have, of numbers, lowered and made better.
func TestLoweredOperations(t *testing.T) {
	for word, v := range map[string]uint64{"add": 43, "sub": 37, "shl": 320, "slt": 0, "sltu": 0, "xor": 43, "shr": 5, "sar": 5, "or": 43, "and": 0, "mul": 120, "divu": 0, "remu": 0} {
		p := parsed(t, "(fun f () (ret ("+word+" 40 3)))")
		l, _ := wantAll(t, word, lowered(t, p), p)
		want := routine("f", 0, 3, number(3, v), ret(3))
		if strings.HasSuffix(word, "u") && word != "sltu" {
			want.Lines = lowered(t, p)[0].Lines
		}
		if texts(l) != text(want) {
			t.Errorf("P15.2: %s: %s; want %s", word, texts(l), text(want))
		}
	}
}

// TestCopies: a copy of a copy, and operations of what operations came to.
func TestCopies(t *testing.T) {
	wantFold(t, "a copy of a copy", row(number(1, 5), copied(2, 1), copied(3, 2), copied(4, 3)), row(number(1, 5), number(2, 5), number(3, 5), number(4, 5)))
	wantFold(t, "a copy of one that is unknown", row(copied(2, 1), copied(3, 2)), row(copied(2, 1), copied(3, 2)))
	wantFold(t, "a copy of itself", row(copied(1, 1), number(1, 5), copied(1, 1), copied(2, 1)), row(copied(1, 1), number(1, 5), number(1, 5), number(2, 5)))
	wantFold(t, "one behind the other", row(number(1, 5), two(api.Add, 1, 1, 1), two(api.Mul, 1, 1, 1), two(api.Sub, 2, 1, 1), zero(2, 7), zero(1, 8)), row(number(1, 5), number(1, 10), number(1, 100), number(2, 0), jump(7)))
	wantFold(t, "swapped", row(number(1, 5), number(2, 6), copied(3, 1), copied(1, 2), copied(2, 3), two(api.Sub, 4, 1, 2)), row(number(1, 5), number(2, 6), number(3, 5), number(1, 6), number(2, 5), number(4, 1)))
	for _, n := range []uint64{0, 1, 1 << 32, least - 1, least, all - 1, all} {
		wantFold(t, "a number", row(number(1, n), copied(9, 1), two(api.Add, 8, 9, 1)), row(number(1, n), number(9, n), number(8, n+n)))
	}
}

// TestZeros: an LZero of a known 0, of a known other number, and of what isn't known.
func TestZeros(t *testing.T) {
	for _, to := range []uint64{0, 1, 7, least, all} {
		wantFold(t, "of 0", row(number(1, 0), zero(1, to), open(1)), row(number(1, 0), jump(to), open(1)))
		for _, n := range []uint64{1, 2, 1 << 32, least, all} {
			wantFold(t, "of another", row(number(1, n), zero(1, to), open(1)), row(number(1, n), open(1)))
		}
		wantFold(t, "of an unknown one", row(number(2, 0), zero(1, to), open(1)), row(number(2, 0), zero(1, to), open(1)))
	}
	wantFold(t, "none of it is known behind", row(zero(1, 2), zero(1, 3), copied(2, 1)), row(zero(1, 2), zero(1, 3), copied(2, 1)))
	wantFold(t, "what is known stays so behind", row(number(1, 5), zero(2, 3), copied(2, 1)), row(number(1, 5), zero(2, 3), number(2, 5)))
	wantFold(t, "to the next line", row(number(1, 0), zero(1, 3), label(3), ret(1)), row(number(1, 0), jump(3), label(3), ret(1)))
	wantFold(t, "not to the next line", row(number(1, 1), zero(1, 3), label(3), ret(1)), row(number(1, 1), label(3), ret(1)))
	wantFold(t, "not at all", row(number(1, 1), zero(1, 3), zero(1, 3), zero(1, 4)), row(number(1, 1)))
}

// TestLabels: what is known ahead of a label isn't behind it, whether one comes to it or not.
func TestLabels(t *testing.T) {
	wantFold(t, "ahead and behind", row(number(1, 5), copied(2, 1), label(3), copied(4, 1), copied(5, 2), number(1, 6), copied(6, 1)), row(number(1, 5), number(2, 5), label(3), copied(4, 1), copied(5, 2), number(1, 6), number(6, 6)))
	wantFold(t, "behind a jump it is", row(number(1, 5), jump(3), copied(2, 1), zero(1, 3), label(3), copied(4, 1), copied(4, 2)), row(number(1, 5), jump(3), number(2, 5), label(3), copied(4, 1), copied(4, 2)))
	wantFold(t, "behind a return it is", row(number(1, 5), ret(1), copied(2, 1)), row(number(1, 5), ret(1), number(2, 5)))
	wantFold(t, "each label by itself", row(number(1, 5), label(3), number(2, 6), label(4), copied(3, 1), copied(4, 2)), row(number(1, 5), label(3), number(2, 6), label(4), copied(3, 1), copied(4, 2)))
	wantFold(t, "a loop", row(number(1, 0), label(1), number(2, 1), two(api.Add, 1, 1, 2), zero(1, 1), ret(1)), row(number(1, 0), label(1), number(2, 1), two(api.Add, 1, 1, 2), zero(1, 1), ret(1)))
}

// TestSetAnew: a known register that is set anew to what isn't known, to what is, and again.
func TestSetAnew(t *testing.T) {
	for what, x := range map[string]api.Line{
		"a load": load(1, 1), "another's load": load(1, 9), "a call": call(1, "g"), "a call of itself": call(1, "g", 1, 1), "an address": addr(1, "k"), "a copy": copied(1, 9), "an operation": two(api.Add, 1, 1, 9), "one that varies": two(api.Remu, 1, 1, 1),
		"no operation": two(99, 1, 1, 1), "a loose store": setting(1, store(2, 2)), "a loose jump": setting(1, jump(2)), "a loose zero": setting(1, zero(9, 2)), "a loose label": setting(1, label(2)), "a loose open": setting(1, open(2)), "a loose return": setting(1, ret(2)), "no kind": {Op: 12, D: 1}, "none either": {Op: -1, D: 1},
	} {
		same := row(number(1, 5), x, copied(2, 1), two(api.Add, 3, 1, 1), zero(1, 4))
		wantFold(t, what, same, same)
		wantFold(t, what+", and a number", lines(number(1, 5), x, number(1, 6), copied(2, 1)), lines(number(1, 5), x, number(1, 6), number(2, 6)))
		if x.Op != api.LLabel {
			wantFold(t, what+", and the others", lines(number(1, 5), number(7, 8), x, copied(2, 7)), lines(number(1, 5), number(7, 8), x, number(2, 8)))
		}
	}
	wantFold(t, "another number", row(number(1, 5), number(1, 6), copied(2, 1)), row(number(1, 5), number(1, 6), number(2, 6)))
	wantFold(t, "a known copy", row(number(1, 5), number(2, 6), copied(1, 2), copied(3, 1)), row(number(1, 5), number(2, 6), number(1, 6), number(3, 6)))
	wantFold(t, "what was copied stays", row(number(1, 5), copied(2, 1), load(1, 1), copied(3, 2), copied(4, 1)), row(number(1, 5), number(2, 5), load(1, 1), number(3, 5), copied(4, 1)))
}

// TestRegisterZero: it is no register, so that it is never known, nor asked for.
func TestRegisterZero(t *testing.T) {
	wantFold(t, "as A and B", row(number(0, 5), copied(1, 0), two(api.Add, 2, 0, 0), zero(0, 3), copied(3, 1)), row(number(0, 5), copied(1, 0), two(api.Add, 2, 0, 0), zero(0, 3), copied(3, 1)))
	wantFold(t, "as one of both", row(number(0, 5), number(1, 5), two(api.Add, 2, 1, 0), two(api.Add, 2, 0, 1)), row(number(0, 5), number(1, 5), two(api.Add, 2, 1, 0), two(api.Add, 2, 0, 1)))
	wantFold(t, "as D", row(number(1, 5), copied(0, 1), two(api.Add, 0, 1, 1), copied(2, 0)), row(number(1, 5), number(0, 5), number(0, 10), copied(2, 0)))
	wantSweep(t, "as D", row(number(0, 5), copied(0, 1), two(api.Add, 0, 1, 1), addr(0, "k"), load(0, 9), call(0, "g", 0), copied(1, 0), two(api.Sub, 2, 0, 0), open(0), store(0, 0), ret(0)), row(load(0, 9), call(0, "g", 0), open(0), store(0, 0), ret(0)))
	wantSweep(t, "as A and B", row(number(0, 5), number(1, 6), two(api.Add, 2, 0, 1), open(2), zero(0, 3), label(3)), row(number(1, 6), two(api.Add, 2, 0, 1), open(2), zero(0, 3), label(3)))
	r := routine("f", 0, 0, number(0, 5), copied(0, 0), jump(1), open(0), label(2), label(1), zero(0, 1), ret(0))
	wantDone(t, "no registers", opt.Fold, r, r)
	wantDone(t, "no registers", opt.Sweep, r, routine("f", 0, 0, jump(1), label(1), zero(0, 1), ret(0)))
}

// TestLooseLines: lines that have more than their kind has.
func TestLooseLines(t *testing.T) {
	more := func(x *api.Line) { x.B, x.Name, x.Args = 7, "x", []int{8, 9, 0} }
	wantFold(t, "a number keeps all", row(loose(number(1, 5), more), copied(2, 1)), row(loose(number(1, 5), more), number(2, 5)))
	wantFold(t, "what a line becomes has no more", row(number(1, 5), number(7, 0), loose(copied(2, 1), more), loose(zero(7, 3), more), loose(two(api.Add, 3, 1, 7), func(x *api.Line) { x.Name, x.Args = "x", []int{1} })), row(number(1, 5), number(7, 0), number(2, 5), jump(3), number(3, 5)))
	for _, x := range kinds() {
		x = loose(x, func(x *api.Line) { x.B, x.Name, x.Args = 9, "x", append(x.Args, 6) })
		wantFold(t, "what stays keeps all", row(x), row(x))
		asks := row(number(4, 1), number(6, 1), number(9, 1), zero(4, 1), open(4), setting(4, x))
		wantSweep(t, "what asks for 6 and 9", asks, asks)
	}
	// What has no D has none when it becomes a jump, and one that isn't known any more when it is left out.
	wantFold(t, "a jump has no D", row(number(1, 0), number(2, 5), setting(2, zero(1, 3)), copied(4, 2)), row(number(1, 0), number(2, 5), jump(3), number(4, 5)))
	wantFold(t, "what is left out has one", row(number(1, 1), number(2, 5), setting(2, zero(1, 3)), copied(4, 2)), row(number(1, 1), number(2, 5), copied(4, 2)))
	wantFold(t, "what is left out, of itself", row(number(1, 1), setting(1, zero(1, 3)), zero(1, 4)), row(number(1, 1), zero(1, 4)))
	wantFold(t, "becoming a jump, of itself", row(number(1, 0), setting(1, zero(1, 3)), zero(1, 4)), row(number(1, 0), jump(3), jump(4)))
	wantSweep(t, "a label that has a register", row(number(5, 1), loose(label(2), func(x *api.Line) { x.A = 5 }), ret(1)), row(ret(1)))
	for _, op := range []int{-1, 12, 13, 99, math.MaxInt, math.MinInt} {
		same := row(number(1, 5), number(2, 6), api.Line{Op: op, D: 3, A: 1, B: 2, Num: api.Add, Args: []int{1}}, copied(4, 3), ret(4))
		wantFold(t, "no kind", same, same)
		wantSweep(t, "no kind", same, same)
	}
}

// TestRest: name, parameters and registers stay as they are, whatever they are.
func TestRest(t *testing.T) {
	for _, name := range []string{"", "f", "x y", "\xff", strings.Repeat("n", 100)} {
		for _, params := range []int{0, 1, 7, -1, 100001, math.MaxInt, math.MinInt} {
			for _, regs := range []int{4, 5, 100000} {
				wantDone(t, "the rest", opt.Fold, routine(name, params, regs, number(3, 5), copied(4, 3), ret(4)), routine(name, params, regs, number(3, 5), number(4, 5), ret(4)))
				wantDone(t, "the rest", opt.Sweep, routine(name, params, regs, number(3, 5), number(4, 5), ret(4)), routine(name, params, regs, number(4, 5), ret(4)))
			}
		}
	}
	wantDone(t, "nothing", opt.Fold, api.Routine{}, api.Routine{})
	wantDone(t, "nothing", opt.Sweep, api.Routine{}, api.Routine{})
}
