package sem_test

import (
	"fmt"
	"math"
	"slices"
	"strings"
	"testing"

	"caponier/api"
	"caponier/sem"
	"caponier/tree"
)

const all = uint64(math.MaxUint64)

// short is a source in few characters, since some are great.
func short(p api.Prog) string {
	s, e := tree.Print(p)
	if e != api.OK {
		s = "a tree that can't be printed"
	}
	if len(s) > 1500 {
		return s[:1500] + ".."
	}
	return s
}

// parsed is a source's tree.
func parsed(t *testing.T, s string) api.Prog {
	t.Helper()
	p, e := tree.Parse(s)
	if e != api.OK {
		t.Fatalf("the test is wrong: %s: %d", s, e)
	}
	return p
}

// row is a list of words.
func row(l ...uint64) []uint64 {
	return l
}

// count is the list of so many words that has 1, 2, 3 and so on.
func count(n int) []uint64 {
	var l []uint64
	for i := range n {
		l = append(l, uint64(i+1))
	}
	return l
}

// world is one of these shared words, and these secret arrays.
func world(shared []uint64, secrets ...[]uint64) api.World {
	return api.World{Secrets: secrets, Shared: shared}
}

func sameWorld(a, b api.World) bool {
	return slices.EqualFunc(a.Secrets, b.Secrets, slices.Equal[[]uint64]) && slices.Equal(a.Shared, b.Shared)
}

func same(a, b api.Outcome) bool {
	return a.Value == b.Value && slices.Equal(a.Opened, b.Opened) && sameWorld(a.World, b.World)
}

// wantAsSlow wants a call to be one that may be, and to come to what the tests' own way tells.
func wantAsSlow(t *testing.T, p api.Prog, f int, args []uint64, w api.World) api.Outcome {
	t.Helper()
	if !sem.May(p, f, args, w) {
		t.Errorf("P12.1: %s: %d of %v, %v: it may not be", short(p), f, args, w)
		return api.Outcome{}
	}
	want := slowRun(p, f, args, w)
	got, e := sem.Run(p, f, args, w)
	if e != api.OK || !same(got, want) {
		t.Errorf("P12.1: %s: %d of %v, %v: %d, %v; want %v", short(p), f, args, w, e, got, want)
	}
	return got
}

// wantLast wants a call of a source's last function to come to this, and to leave the world so.
func wantLast(t *testing.T, s string, args []uint64, w api.World, value uint64, opened []uint64, behind api.World) {
	t.Helper()
	p := parsed(t, s)
	got := wantAsSlow(t, p, len(p.Funcs)-1, args, w)
	if want := (api.Outcome{Value: value, Opened: opened, World: behind}); !same(got, want) {
		t.Errorf("P12.1: %s of %v, %v: %v; want %v", s, args, w, got, want)
	}
}

// wantValue wants a call of a source's last function to return this, with nothing opened, and nothing put.
func wantValue(t *testing.T, s string, args []uint64, w api.World, value uint64) {
	t.Helper()
	wantLast(t, s, args, w, value, nil, w)
}

// wantOpened wants just that to be opened, in this order.
func wantOpened(t *testing.T, s string, args []uint64, w api.World, opened ...uint64) {
	t.Helper()
	p := parsed(t, s)
	got := wantAsSlow(t, p, len(p.Funcs)-1, args, w)
	if !slices.Equal(got.Opened, opened) {
		t.Errorf("P12.1: %s of %v, %v: %v is opened; want %v", s, args, w, got.Opened, opened)
	}
}

// wantArg wants a call to be one that may not be, and nothing else to be told.
func wantArg(t *testing.T, p api.Prog, f int, args []uint64, w api.World) {
	t.Helper()
	if sem.May(p, f, args, w) {
		t.Errorf("P12.1: %s: %d of %v, %v: it may be", short(p), f, args, w)
	}
	got, e := sem.Run(p, f, args, w)
	if e != api.Arg || got.Value != 0 || len(got.Opened) != 0 || len(got.World.Secrets) != 0 || len(got.World.Shared) != 0 {
		t.Errorf("P12.1: %s: %d of %v, %v: %d, %v; want Arg", short(p), f, args, w, e, got)
	}
}

// TestExample is the chapter's.
func TestExample(t *testing.T) {
	wantLast(t, "(secret k 2)(export f (i) (put k i 5) (ret (open (get k 3))))", row(1), world(nil, row(0, 0)), 5, row(5), world(nil, row(0, 5)))
	wantLast(t, "(secret k 2)(export f (i) (put k i 5) (ret (open (get k 3))))", row(0), world(nil, row(8, 9)), 9, row(9), world(nil, row(5, 9)))
	// And the README's.
	readme := "(secret k 2) (export f (i (ptr p 2)) (put k i (get p 1)) (ret (open (get k 3))))"
	wantLast(t, readme, row(1, 1), world(row(7, 8, 9), row(1, 2)), 9, row(9), world(row(7, 8, 9), row(1, 9)))
	wantArg(t, parsed(t, readme), 0, row(1, 2), world(row(7, 8, 9), row(1, 2)))
}

// head is a source with which expressions and statements are tried.
const head = `(secret k 3) (secret l 1)
(fun id ((sec a)) (ret a))
(fun seven () (ret 7))
(fun at ((ptr p 2) i) (ret (get p i)))
(fun six (a (sec b) c (sec d) e g) (ret (add (mul 100000 a) (add (mul 10000 b) (add (mul 1000 c) (add (mul 100 d) (add (mul 10 e) g)))))))
`

// aWorld is one of head.
func aWorld() api.World {
	return world(row(1, 2, 3, 4, 5), row(10, 20, 30), row(70))
}

// TestExpressions has each kind of expression, and one within another.
func TestExpressions(t *testing.T) {
	for e, want := range map[string]uint64{
		"0": 0, "1": 1, "4096": 4096, "18446744073709551615": all, "9223372036854775808": 1 << 63,
		"a": 5, "b": 0, "x": 0,
		"(get k 0)": 10, "(get k 1)": 20, "(get k 2)": 30, "(get l 0)": 70, "(get q 0)": 2, "(get q 1)": 3, "(get q 3)": 5,
		"(get k (get q 3))": 30, "(get q (get q (get q b)))": 2, "(get k a)": 30, "(get q (add a b))": 3,
		"(add 2 3)": 5, "(sub a 2)": 3, "(sub 2 a)": all - 2, "(add (get k 1) (get q 1))": 23, "(mul (add a 1) (sub a (add 1 b)))": 24,
		"(sel a 1 2)": 1, "(sel b 1 2)": 2, "(sel (sel b b a) (sel a 3 4) 5)": 3, "(sel (get k 0) (get k 1) (get k 2))": 20, "(sel (sub (get k 0) 10) a (get l b))": 70,
		"(call seven)": 7, "(call id a)": 5, "(call id (get k 2))": 30, "(call id (call id (add (call id 1) (call seven))))": 8,
		"(call at q 0)": 2, "(call at q 1)": 3, "(call at q (call seven))": 3, "(call at q (call at q b))": 2,
		"(call six 1 2 3 4 5 6)": 123456, "(call six a (get q 0) b (call seven) 9 (sel 1 8 x))": 520798,
		"(add (sel (call id a) (get k (sub a 4)) (call seven)) (call at q (sub 5 (add a b))))": 22,
	} {
		for _, word := range []string{"fun", "export"} {
			if word == "fun" {
				wantValue(t, head+"(fun f (a b (ptr q 4)) (ret "+e+"))", row(5, 0, 1), aWorld(), want)
				wantValue(t, head+"(fun f (a b (ptr q 4)) (set y "+e+") (for n 2 (if n ((set z y)) ())) (ret z))", row(5, 0, 1), aWorld(), want)
			}
			wantLast(t, head+"("+word+" f (a b (ptr q 4)) (ret (open "+e+")))", row(5, 0, 1), aWorld(), want, row(want), aWorld())
		}
	}
}

// operations are all words of operations.
func operations() []string {
	return []string{"add", "sub", "shl", "slt", "sltu", "xor", "shr", "sar", "or", "and", "mul", "divu", "remu"}
}

// edges are the numbers at which operations turn.
func edges() []uint64 {
	return []uint64{0, 1, 2, 3, 7, 31, 32, 63, 64, 65, 127, 128, 1 << 31, 1 << 32, 1<<32 + 1, 1<<63 - 1, 1 << 63, 1<<63 + 1, all - 63, all - 1, all, 0x0123456789abcdef}
}

// TestOperations does each of thirteen of all edges: wrap-around, shifts by 64 and more, division by 0 too.
func TestOperations(t *testing.T) {
	for o, want := range map[string]uint64{
		"add 18446744073709551615 2": 1, "sub 1 2": all, "sub 0 18446744073709551615": 1, "mul 9223372036854775809 2": 2, "mul 18446744073709551615 18446744073709551615": 1,
		"shl 3 2": 12, "shl 1 63": 1 << 63, "shl 5 64": 5, "shl 5 65": 10, "shl 5 18446744073709551615": 1 << 63, "shr 9223372036854775808 63": 1, "shr 5 64": 5, "shr 5 129": 2, "sar 9223372036854775808 63": all, "sar 9223372036854775808 127": all, "sar 12 66": 3,
		"slt 1 2": 1, "slt 2 1": 0, "slt 2 2": 0, "slt 18446744073709551615 0": 1, "slt 0 18446744073709551615": 0, "sltu 18446744073709551615 0": 0, "sltu 0 18446744073709551615": 1, "sltu 7 7": 0,
		"xor 12 10": 6, "or 12 10": 14, "and 12 10": 8,
		"divu 7 2": 3, "remu 7 2": 1, "divu 18446744073709551615 2": 1<<63 - 1, "remu 18446744073709551615 16": 15, "divu 7 0": all, "remu 7 0": 7, "divu 0 0": all, "remu 0 0": 0,
	} {
		wantValue(t, "(export f () (ret ("+o+")))", nil, world(nil), want)
	}
	for _, o := range operations() {
		p := parsed(t, "(secret k 2) (fun f (a b) (ret ("+o+" a b))) (fun g ((ptr q 2)) (ret ("+o+" (get q 0) (add (get q 1) 0))))")
		for _, a := range edges() {
			for _, b := range edges() {
				w := world(row(a, b), row(0, 0))
				one, other := wantAsSlow(t, p, 0, row(a, b), w), wantAsSlow(t, p, 1, row(0), w)
				if one.Value != other.Value {
					t.Errorf("P12.1: %s of %d, %d: %d, and %d", o, a, b, one.Value, other.Value)
				}
			}
		}
	}
}

// TestOperationsWithin has each operation within each, on both sides.
func TestOperationsWithin(t *testing.T) {
	for _, x := range operations() {
		for _, y := range operations() {
			p := parsed(t, fmt.Sprintf("(fun f (a b c) (ret (%s (%s a b) c))) (export g (a b c) (ret (%s a (%s b c))))", x, y, x, y))
			for _, args := range [][]uint64{{5, 3, 2}, {all, 2, 65}, {0, 1 << 63, 0}} {
				wantAsSlow(t, p, 0, args, world(nil))
				wantAsSlow(t, p, 1, args, world(nil))
			}
		}
	}
}

// TestStatements has each kind of statement, and one within another.
func TestStatements(t *testing.T) {
	for _, x := range []struct {
		body   string
		value  uint64
		k      []uint64
		shared []uint64
	}{
		{"(ret a)", 5, row(10, 20, 30), row(1, 2, 3, 4, 5)},
		{"(set x 1) (ret x)", 1, row(10, 20, 30), row(1, 2, 3, 4, 5)},
		{"(set x 1) (set x (add x 1)) (set y x) (set x 9) (ret (add (mul 10 x) y))", 92, row(10, 20, 30), row(1, 2, 3, 4, 5)},
		{"(set a (add a 1)) (set b a) (ret (add a b))", 12, row(10, 20, 30), row(1, 2, 3, 4, 5)},
		{"(put k 1 9) (ret 0)", 0, row(10, 9, 30), row(1, 2, 3, 4, 5)},
		{"(put k 0 9) (put k 2 (get k 0)) (put k 0 0) (ret (get k 2))", 9, row(0, 20, 9), row(1, 2, 3, 4, 5)},
		{"(put k a (get q 1)) (ret 0)", 0, row(10, 20, 3), row(1, 2, 3, 4, 5)},
		{"(put q 0 9) (ret (get q 0))", 9, row(10, 20, 30), row(1, 9, 3, 4, 5)},
		{"(put q 3 a) (put q (get q 0) b) (ret 0)", 0, row(10, 20, 30), row(1, 2, 3, 0, 5)},
		{"(if a ((set x 1)) ((set x 2))) (ret x)", 1, row(10, 20, 30), row(1, 2, 3, 4, 5)},
		{"(if b ((set x 1)) ((set x 2))) (ret x)", 2, row(10, 20, 30), row(1, 2, 3, 4, 5)},
		{"(if a ((put k 0 1) (put k 1 2)) ((put k 2 3))) (ret 0)", 0, row(1, 2, 30), row(1, 2, 3, 4, 5)},
		{"(if b ((put k 0 1) (put k 1 2)) ((put k 2 3) (put q 0 0))) (ret 0)", 0, row(10, 20, 3), row(1, 0, 3, 4, 5)},
		{"(if a () ((set a 0))) (if b ((set a 1)) ()) (ret a)", 5, row(10, 20, 30), row(1, 2, 3, 4, 5)},
		{"(if a ((set a 0)) ()) (if a ((set x 1)) ((set x 2))) (ret x)", 2, row(10, 20, 30), row(1, 2, 3, 4, 5)},
		{"(if a ((if b ((set x 1)) ((if a ((set x 2)) ((set x 3)))))) ((set x 4))) (ret x)", 2, row(10, 20, 30), row(1, 2, 3, 4, 5)},
		{"(for i 3 (put k i i)) (ret i)", 2, row(0, 1, 2), row(1, 2, 3, 4, 5)},
		{"(for i 4 (set x (add x (get q i)))) (ret x)", 14, row(10, 20, 30), row(1, 2, 3, 4, 5)},
		{"(for i 4 (put q i (add (get q i) i))) (ret 0)", 0, row(10, 20, 30), row(1, 2, 4, 6, 8)},
		{"(for i 5 (if (remu i 2) ((set x (add (mul x 10) i))) ((set y (add (mul y 10) i))))) (ret (add (mul 1000 x) y))", 13024, row(10, 20, 30), row(1, 2, 3, 4, 5)},
		{"(for i 3 (for j 2 (set x (add (mul x 10) (add (mul i 2) j))))) (ret x)", 12345, row(10, 20, 30), row(1, 2, 3, 4, 5)},
		{"(for i 2 (for j 2 (for n 2 (set x (add (mul x 2) (and i (and j n))))))) (ret x)", 1, row(10, 20, 30), row(1, 2, 3, 4, 5)},
		{"(if a ((for i 2 (if i ((for j 3 (if j ((put k j (add i j))) ()))) ((put k 0 0))))) ()) (ret 0)", 0, row(0, 2, 3), row(1, 2, 3, 4, 5)},
	} {
		for _, word := range []string{"fun", "export"} {
			s := head + "(" + word + " f (a b (ptr q 4)) " + x.body + ")"
			if word == "export" {
				i := strings.LastIndex(s, "(ret ")
				s = s[:i] + "(ret (open " + s[i+len("(ret "):] + ")"
			}
			behind := world(x.shared, x.k, row(70))
			if word == "fun" {
				wantLast(t, s, row(5, 0, 1), aWorld(), x.value, nil, behind)
			} else {
				wantLast(t, s, row(5, 0, 1), aWorld(), x.value, row(x.value), behind)
			}
		}
	}
}

// TestManySecretArrays: each has its own words, in their order.
func TestManySecretArrays(t *testing.T) {
	s := "(secret b 2) (secret a 1) (secret c 3) (fun f () (put a 1 7) (put b 1 (get c 2)) (put c 0 (get b 0)) (ret (add (get a 0) (get b 1))))"
	wantLast(t, s, nil, world(nil, row(1, 2), row(3), row(4, 5, 6)), 13, nil, world(nil, row(1, 6), row(7), row(1, 5, 6)))
	var b strings.Builder
	w := world(row(0))
	for i := range 32 {
		fmt.Fprintf(&b, "(secret k%d %d)", i, 2*i+1)
		w.Secrets = append(w.Secrets, make([]uint64, 2*i+1))
		w.Secrets[i][i] = uint64(i) * 3
	}
	b.WriteString("(fun f0 () (ret (get k0 0)))")
	for i := range 31 {
		fmt.Fprintf(&b, "(fun f%d () (put k%d 0 7) (ret (add (call f%d) (get k%d %d))))", i+1, i+1, i, i+1, i+1)
	}
	p := parsed(t, b.String())
	for i := range 32 {
		got := wantAsSlow(t, p, i, nil, w)
		if want := uint64(i * (i + 1) / 2 * 3); got.Value != want {
			t.Errorf("P12.1: f%d: %d; want %d", i, got.Value, want)
		}
	}
}

// TestVariablesAreTheirFunctions: each function, and each call of it, has variables of its own, which are 0 at first.
func TestVariablesAreTheirFunctions(t *testing.T) {
	for s, want := range map[string]uint64{
		"(fun g () (set x 1) (ret 0)) (fun f () (set y (call g)) (ret x))":                                                          0,
		"(fun g () (ret x)) (fun f () (set x 1) (ret (call g)))":                                                                    0,
		"(fun g () (set x (add x 1)) (ret x)) (fun f () (ret (add (call g) (add (call g) (call g)))))":                              3,
		"(fun g (a) (set a (add a 1)) (ret a)) (fun f (b) (set a 5) (set x (call g a)) (ret (add (mul 10 a) x)))":                   56,
		"(fun g (a) (for i 3 (set x (add x i))) (ret (add a x))) (fun f (b) (for i 3 (set y (add (mul y 10) (call g i)))) (ret y))": 345,
		"(fun g (f) (set g f) (ret g)) (fun f (g) (set f (call g (add g 1))) (ret (add (mul f 10) g)))":                             43,
		"(fun set (put) (set if put) (ret if)) (fun f (get) (set set get) (ret (call set set)))":                                    3,
		"(fun p (a) (ret a)) (fun f (p) (set a 8) (ret (call p (call p p))))":                                                       3,
	} {
		p := parsed(t, s)
		args := row(3)[:len(p.Funcs[len(p.Funcs)-1].Params)]
		wantValue(t, s, args, world(nil), want)
	}
	// A name that is an array's in one function may be a variable's in another.
	wantLast(t, "(fun g ((ptr q 2)) (put q 0 (get q 1)) (ret (get q 0))) (fun h (q) (set q (add q 1)) (ret q)) (fun f ((ptr p 2)) (set q 5) (set x (call g p)) (ret (add (mul 100 (call h x)) (add q x))))",
		row(1), world(row(1, 2, 3)), 411-3, nil, world(row(1, 3, 3)))
}

// TestCalls has functions that call others, many deep, and hand on words.
func TestCalls(t *testing.T) {
	wantValue(t, "(fun g (a b) (ret (sub a b))) (fun h (a b) (ret (add (mul 10 (call g a b)) (call g b a)))) (export f (a) (ret (add (call h a 1) (call h (call g a 1) (call h 2 1)))))", row(4), world(nil), all-26)
	var b strings.Builder
	b.WriteString("(fun f0 (a) (ret (add a 1)))")
	for i := 1; i < 32; i++ {
		fmt.Fprintf(&b, "(fun f%d (a) (set x (call f%d (add a 1))) (ret (add x a)))", i, i-1)
	}
	p := parsed(t, b.String())
	for i := range 32 {
		got := wantAsSlow(t, p, i, row(100), world(nil))
		want := uint64(100 + i + 1)
		for k := range i {
			want += uint64(100 + k)
		}
		if got.Value != want {
			t.Errorf("P12.1: f%d: %d; want %d", i, got.Value, want)
		}
	}
	// Functions between and behind those that are called don't matter, nor whether they are Out.
	wantValue(t, "(fun g () (ret 1)) (export h () (ret 2)) (fun i () (ret (add 2 (call g)))) (export j () (ret 4)) (fun f () (ret (add (call i) (call g))))", nil, world(nil), 4)
	for i, want := range []uint64{1, 2, 3, 4, 4} {
		q := parsed(t, "(fun g () (ret 1)) (export h () (ret 2)) (fun i () (ret (add 2 (call g)))) (export j () (ret 4)) (fun f () (ret (add (call i) (call g))))")
		if got := wantAsSlow(t, q, i, nil, world(nil)); got.Value != want {
			t.Errorf("P12.1: function %d: %d; want %d", i, got.Value, want)
		}
	}
}

// TestPointers: they are handed on as they are, and point at the callee's own number of words.
func TestPointers(t *testing.T) {
	w := world(row(1, 2, 3, 4, 5, 6))
	wantValue(t, "(fun g ((ptr p 2)) (ret (add (mul 10 (get p 0)) (get p 3)))) (export f ((ptr q 4)) (ret (call g q)))", row(2), w, 34)
	wantValue(t, "(fun g ((ptr p 1)) (ret (get p 5))) (fun h ((ptr p 3)) (ret (add (mul 10 (get p 5)) (call g p)))) (export f ((ptr q 4)) (ret (add (mul 100 (get q 5)) (call h q))))", row(1), w, 342)
	wantValue(t, "(fun g ((ptr p 1) a (ptr q 1)) (ret (add (get p 0) (mul a (get q 0))))) (export f ((ptr q 2) b (ptr p 2)) (ret (call g p b q)))", row(1, 10, 3), w, 24)
	// What is put by a pointer is there for whoever has one.
	wantLast(t, "(fun g ((ptr p 2) v) (put p 1 v) (ret (get p 0))) (export f ((ptr q 3)) (set x (call g q 9)) (ret (add (mul 10 x) (get q 1))))", row(1), w, 29, nil, world(row(1, 2, 9, 4, 5, 6)))
	wantLast(t, "(fun g ((ptr p 2)) (put p 3 7) (ret 0)) (fun h ((ptr r 3)) (put r 4 8) (ret (call g r))) (export f ((ptr q 6)) (ret (call h q)))", row(0), w, 0, nil, world(row(1, 7, 3, 4, 5, 6)))
	wantLast(t, "(fun g ((ptr p 2) (ptr r 2)) (put p 0 7) (put r 1 8) (ret (get r 0))) (export f ((ptr q 2)) (ret (call g q q)))", row(4), w, 7, nil, world(row(1, 2, 3, 4, 7, 8)))
	// Secret arrays aren't shared.
	wantLast(t, "(secret k 2) (fun g ((ptr p 2)) (put k 0 (get p 0)) (put p 1 (open (get k 1))) (ret (get p 0))) (export f ((ptr q 2)) (ret (call g q)))", row(1), world(row(1, 2, 3), row(8, 9)), 2, row(9), world(row(1, 2, 9), row(2, 9)))
}

// TestOpenedInEachPlace: arguments are reckoned from the first on, and what is within comes ahead of what is around.
func TestOpenedInEachPlace(t *testing.T) {
	head := "(secret k 3) (fun id ((sec a)) (ret a)) (fun two (a b) (set x (open (add 10 a))) (ret (open (add 20 b)))) (fun six (a b c d e g) (ret (open 7))) (fun at ((ptr p 1) i (ptr r 1)) (ret (open (add (get p 0) (get r i)))))"
	for body, want := range map[string][]uint64{
		"(ret 1)":                                                                       nil,
		"(ret (open 1))":                                                                row(1),
		"(ret (open (open (open 1))))":                                                  row(1, 1, 1),
		"(ret (open (add (open 1) (open 2))))":                                          row(1, 2, 3),
		"(ret (sub (open 2) (sub (open 3) (open 4))))":                                  row(2, 3, 4),
		"(ret (sub (sub (open 2) (open 3)) (open 4)))":                                  row(2, 3, 4),
		"(ret (sel (open 1) (open 2) (open 3)))":                                        row(1, 2, 3),
		"(ret (open (sel (open 0) (open 2) (open 3))))":                                 row(0, 2, 3, 3),
		"(ret (open (sel (open 1) (sel (open 0) (open 2) (open 3)) (open 4))))":         row(1, 0, 2, 3, 4, 3),
		"(ret (open (get k (open 4))))":                                                 row(4, 20),
		"(ret (get q (open (add (open 1) (open 2)))))":                                  row(1, 2, 3),
		"(set x (open 1)) (set y (open 2)) (ret (open (add x y)))":                      row(1, 2, 3),
		"(set x (open (open 3))) (ret x)":                                               row(3, 3),
		"(put k (open 1) (open 2)) (ret 0)":                                             row(1, 2),
		"(put q (open (open 1)) (open (add (open 2) 1))) (ret 0)":                       row(1, 1, 2, 3),
		"(put q (open 2) (open 1)) (ret (open (get q (open 2))))":                       row(2, 1, 2, 1),
		"(if (open 1) ((set x (open 2))) ((set x (open 3)))) (ret (open 4))":            row(1, 2, 4),
		"(if (open 0) ((set x (open 2))) ((set x (open 3)) (set x (open 4)))) (ret x)":  row(0, 3, 4),
		"(for i 3 (set x (open i))) (ret (open i))":                                     row(0, 1, 2, 2),
		"(for i 2 (set x (open 5)) (for j 2 (set x (open (add (mul 2 i) j))))) (ret 0)": row(5, 0, 1, 5, 2, 3),
		"(for i 3 (if (open (and i 1)) ((set x (open 8))) ((set x (open 9))))) (ret 0)": row(0, 9, 1, 8, 0, 9),
		"(ret (call id (open 1)))":                                                      row(1),
		"(ret (call six (open 1) (open 2) (open 3) (open 4) (open 5) (open 6)))":        row(1, 2, 3, 4, 5, 6, 7),
		"(ret (call two (open 1) (open 2)))":                                            row(1, 2, 11, 22),
		"(ret (open (call two (call two 1 2) (call two 3 4))))":                         row(11, 22, 13, 24, 32, 44, 44),
		"(ret (add (call two 1 2) (add (open 3) (call two 4 5))))":                      row(11, 22, 3, 14, 25),
		"(ret (sel (call two 1 2) (call two 3 4) (call two 5 6)))":                      row(11, 22, 13, 24, 15, 26),
		"(for i 2 (set x (call two i (open i)))) (ret 0)":                               row(0, 10, 20, 1, 11, 21),
		"(if (call two 0 0) ((put k (call two 1 1) (call two 2 2))) ()) (ret 0)":        row(10, 20, 11, 21, 12, 22),
		"(put q 1 (call two 0 1)) (ret (call at q (open 1) q))":                         row(10, 21, 1, 4),
		"(ret (get k (open (get q (open (get q (open 2)))))))":                          row(2, 2, 2),
	} {
		for _, word := range []string{"fun", "export"} {
			s := body
			if word == "export" { // whatever is returned may be secret
				at := strings.LastIndex(s, "(ret ")
				s = s[:at] + "(set z " + s[at+len("(ret "):] + "(ret 0)"
			}
			s = head + "(" + word + " f ((ptr q 2)) " + s + ")"
			wantOpened(t, s, row(1), world(row(1, 2, 3), row(10, 20, 30)), want...)
		}
	}
}

// TestOpenedThroughout: what is opened in all functions comes in one row, and each call begins one.
func TestOpenedThroughout(t *testing.T) {
	s := `(secret k 4)
(fun each ((sec a) n) (for i 4 (if (open (slt i n)) ((put k i (add (get k i) a))) ((set x (open (get k i)))))) (ret (open x)))
(fun twice ((sec a)) (set x (call each a 1)) (ret (add x (call each (add a 1) (open 3)))))
(export f (a) (for i 2 (set x (add x (open (call twice (add a i)))))) (ret x))`
	p := parsed(t, s)
	w := world(nil, row(1, 2, 3, 4))
	want := row(
		1, 0, 2, 0, 3, 0, 4, 4, 3, 1, 1, 1, 0, 4, 4, 8,
		1, 0, 13, 0, 14, 0, 4, 4, 3, 1, 1, 1, 0, 4, 4, 8)
	for range 2 {
		got := wantAsSlow(t, p, 2, row(10), w)
		if !slices.Equal(got.Opened, want) || got.Value != 16 || !slices.Equal(got.World.Secrets[0], row(1+10+11+11+12, 2+11+12, 3+11+12, 4)) {
			t.Errorf("P12.1: %v", got)
		}
	}
}
