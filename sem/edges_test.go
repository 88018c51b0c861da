package sem_test

import (
	"fmt"
	"math/big"
	"slices"
	"strings"
	"testing"

	"caponier/api"
	"caponier/sec"
)

// TestParameters: none, and six of each kind.
func TestParameters(t *testing.T) {
	wantValue(t, "(export f () (ret 3))", nil, world(nil), 3)
	wantValue(t, "(export f () (ret 3))", []uint64{}, world([]uint64{}), 3)
	wantValue(t, "(fun f () (ret x))", nil, world(row(1)), 0)
	sum := "(ret (add a (add (mul 10 b) (add (mul 100 c) (add (mul 1000 d) (add (mul 10000 e) (mul 100000 g)))))))"
	wantValue(t, "(export f (a b c d e g) "+sum+")", row(1, 2, 3, 4, 5, 6), world(nil), 654321)
	wantValue(t, "(fun f ((sec a) (sec b) (sec c) (sec d) (sec e) (sec g)) "+sum+")", row(1, 2, 3, 4, 5, 6), world(nil), 654321)
	wantValue(t, "(fun f (a (sec b) c (sec d) e (sec g)) "+sum+")", row(all, 0, 0, 0, 0, 0), world(nil), all)
	for _, name := range []string{"a", "b", "c", "d", "e", "g"} {
		sum = strings.ReplaceAll(sum, " "+name, " (get "+name+" 0)")
	}
	wantValue(t, "(export f ((ptr a 1) (ptr b 1) (ptr c 1) (ptr d 1) (ptr e 1) (ptr g 1)) "+sum+")", row(5, 4, 3, 2, 1, 0), world(row(1, 2, 3, 4, 5, 6)), 123456)
	wantValue(t, "(export f ((ptr a 2) b (ptr c 1) d e (ptr g 3)) (ret (add (get a 1) (add b (add (get c 0) (add d (add e (get g 2))))))))", row(0, 10, 3, 100, 1000, 1), world(row(1, 2, 3, 4)), 2+10+4+100+1000+4)
}

// TestSingleReturn: functions whose statements are a single return, of each kind of expression.
func TestSingleReturn(t *testing.T) {
	for e, want := range map[string]uint64{
		"(ret 18446744073709551615)": all, "(ret a)": 4, "(ret x)": 0, "(ret (get p 1))": 9, "(ret (mul a a))": 16, "(ret (sel a 1 2))": 1, "(ret (call g))": 6,
	} {
		wantValue(t, "(fun g () (ret 6)) (export f (a (ptr p 2)) "+e+")", row(4, 0), world(row(8, 9)), want)
	}
	wantLast(t, "(export f (a) (ret (open a)))", row(4), world(nil), 4, row(4), world(nil))
}

// TestVariablesThatAreNotSet are 0, till they are set.
func TestVariablesThatAreNotSet(t *testing.T) {
	for body, want := range map[string]uint64{
		"(ret x)":                                                0,
		"(ret (add x (sub y z)))":                                0,
		"(set y x) (set x 1) (ret y)":                            0,
		"(set y x) (set x 1) (ret (add (mul 10 y) x))":           1,
		"(set x (add x 1)) (ret x)":                              1,
		"(if x ((set y 1)) ((set y 2))) (set x 1) (ret y)":       2,
		"(if 0 ((set x 1)) ()) (ret x)":                          0,
		"(if 1 () ((set x 1))) (ret x)":                          0,
		"(for i 3 (set y (add y x)) (set x i)) (ret y)":          1,
		"(for i 3 (set y (add (mul 10 y) j)) (for j 4)) (ret y)": 33,
		"(set y i) (for i 3) (ret (add (mul 10 y) i))":           2,
		"(ret (get p x))":                                        8,
		"(put p x 1) (set x 1) (ret (get p x))":                  9,
		"(ret (sel x y 3))":                                      3,
		"(set a a) (set b b) (ret (add a b))":                    4,
		"(for n 2 (if n ((set y x)) ((set x 6)))) (ret y)":       6,
	} {
		s := "(export f (a (ptr p 2)) " + body + ")"
		p := parsed(t, s)
		if got := wantAsSlow(t, p, 0, row(4, 0), world(row(8, 9))); got.Value != want || len(got.Opened) != 0 {
			t.Errorf("P12.1: %s: %v; want %d", s, got, want)
		}
	}
}

// TestIndices: an index is taken modulo the array's words, however great it is.
func TestIndices(t *testing.T) {
	for n := 1; n <= 64; n++ {
		p := parsed(t, fmt.Sprintf("(secret j 2) (secret k %d) (secret l 2) (fun f (i (ptr p %d)) (put k i (add 1000 (get k i))) (put p i (add 2000 (get p i))) (ret (add (get k i) (mul 10000 (get p i)))))", n, n))
		w := world(count(n+2), row(0, 0), count(n), row(0, 0))
		for _, i := range []uint64{0, 1, uint64(n) - 1, uint64(n), uint64(n) + 1, 2*uint64(n) - 1, 2 * uint64(n), 64, 127, 1000, 1<<32 - 1, 1 << 32, 1<<63 - 1, 1 << 63, 1<<63 + 1, all - uint64(n), all - 1, all} {
			at := int(new(big.Int).Mod(unsigned(i), big.NewInt(int64(n))).Int64())
			behind := copied(w)
			behind.Secrets[1][at] += 1000
			behind.Shared[1+at] += 2000
			want := api.Outcome{Value: behind.Secrets[1][at] + 10000*behind.Shared[1+at], World: behind}
			if got := wantAsSlow(t, p, 0, row(i, 1), w); !same(got, want) {
				t.Errorf("P12.1: the index %d of %d words: %v; want %v", i, n, got, want)
			}
		}
	}
}

// TestSharedWords: none, all of 512, and pointers at the last place where they may be.
func TestSharedWords(t *testing.T) {
	wantValue(t, "(export f (a) (ret a))", row(7), world(nil), 7)
	wantLast(t, "(secret k 1) (export f (a) (put k 0 a) (ret a))", row(7), world(nil, row(0)), 7, nil, world(nil, row(7)))
	wantValue(t, "(export f (a) (ret a))", row(7), world(count(512)), 7)
	for _, words := range []int{1, 2, 63, 64, 65, 511, 512} {
		for _, n := range []int{1, 2, 3, 63, 64} {
			if n > words {
				continue
			}
			p := parsed(t, fmt.Sprintf("(export f ((ptr p %d)) (put p 0 (add 1000 (get p 0))) (put p %d (add 2000 (get p %d))) (ret (get p %d)))", n, n-1, n-1, n-1))
			for _, at := range []int{0, 1, words - n - 1, words - n} {
				if at < 0 || at > words-n {
					continue
				}
				behind := world(count(words))
				behind.Shared[at] += 1000
				behind.Shared[at+n-1] += 2000
				want := api.Outcome{Value: behind.Shared[at+n-1], World: behind}
				if got := wantAsSlow(t, p, 0, row(uint64(at)), world(count(words))); !same(got, want) {
					t.Errorf("P12.1: a pointer at %d words, from %d of %d on: %v; want %v", n, at, words, got, want)
				}
			}
		}
	}
}

// TestPointersAtTheSameWords: two at the same words, and two that lie over one another.
func TestPointersAtTheSameWords(t *testing.T) {
	s := "(export f ((ptr p 3) (ptr q 3)) (put p 1 10) (put q 0 (add 1 (get q 0))) (put p 2 (add (get p 2) (get q 1))) (ret (add (mul 10000 (get p 1)) (add (mul 100 (get q 1)) (get q 2)))))"
	for _, x := range []struct {
		p, q  uint64
		value uint64
		words []uint64
	}{
		{0, 0, 10*10000 + 10*100 + 13, row(2, 10, 13, 4, 5, 6)},
		{2, 2, 10*10000 + 10*100 + 15, row(1, 2, 4, 10, 15, 6)},
		{0, 1, 11*10000 + 6*100 + 4, row(1, 11, 6, 4, 5, 6)},
		{1, 0, 10*10000 + 2*100 + 10, row(2, 2, 10, 6, 5, 6)},
		{0, 2, 10*10000 + 4*100 + 5, row(1, 10, 8, 4, 5, 6)},
		{2, 0, 10*10000 + 2*100 + 3, row(2, 2, 3, 10, 7, 6)},
		{0, 3, 10*10000 + 5*100 + 6, row(1, 10, 8, 5, 5, 6)},
		{3, 3, 10*10000 + 10*100 + 16, row(1, 2, 3, 5, 10, 16)},
	} {
		wantLast(t, s, row(x.p, x.q), world(count(6)), x.value, nil, world(x.words))
	}
	// By one pointer, for a function that is handed it twice, and has fewer words by one.
	wantLast(t, "(fun g ((ptr a 2) (ptr b 4)) (put a 3 (get b 3)) (put b 5 0) (ret (get a 1))) (export f ((ptr p 4)) (ret (call g p p)))", row(1), world(count(6)), 0, nil, world(row(1, 2, 0, 4, 5, 6)))
}

// TestLoops: one round, and 64, and the variable behind them.
func TestLoops(t *testing.T) {
	for body, want := range map[string]uint64{
		"(for i 1) (ret (add i 100))":                                      100,
		"(for i 1 (set x (add x 1))) (ret (add (mul 100 i) x))":            1,
		"(for i 2) (ret i)":                                                1,
		"(for i 64) (ret i)":                                               63,
		"(for i 64 (set x (add x 1))) (ret (add (mul 100 i) x))":           6364,
		"(for i 64 (set x (add x i))) (ret x)":                             2016,
		"(set i 9) (for i 1) (ret i)":                                      0,
		"(set i 9) (for i 3 (set x (add (mul 10 x) i))) (ret x)":           12,
		"(for i 3) (set i 7) (set x i) (for i 2) (ret (add (mul 10 x) i))": 71,
		"(for a 5) (ret a)":                                                4,
		"(for i 3 (for j 2)) (ret (add (mul 10 i) j))":                     21,
		"(for i 2 (set x (add (mul 10 x) j)) (for j 64 (if j () ((set y (add y 1)))))) (ret (add (mul 1000 x) y))":     63002,
		"(for i 3 (for j 3 (set x (add (mul 10 x) i))) (set x (add (mul 10 x) j))) (ret x)":                            211122222,
		"(for j 2 (set x (add (mul 10 x) j))) (for i 2 (set x (add (mul 10 x) j)) (for j 3)) (ret (add (mul 10 x) j))": 1122,
		"(if 1 ((for i 3)) ((for i 5))) (ret i)":                                                                       2,
		"(for i 4 (set j i) (set x (add x j)) (set j 9)) (ret (add x j))":                                              15,
		"(for i 2 (for j 2 (for n 2 (for m 2 (set x (add (mul 2 x) (xor i m))))))) (ret (add x (add i m)))":            0b0101010110101010 + 2,
	} {
		wantValue(t, "(export f (a) "+body+")", row(8), world(nil), want)
	}
}

// TestConditions: 0 chooses the third, or Else; all other numbers the second, or Then.
func TestConditions(t *testing.T) {
	for _, c := range []uint64{0, 1, 2, 255, 256, 1 << 31, 1 << 32, 1 << 62, 1 << 63, 1<<63 - 1, all - 1, all} {
		want := uint64(7)
		if c == 0 {
			want = 8
		}
		for _, e := range []string{"a", "(open a)", fmt.Sprint(c), "(add a 0)", "(get p 0)", "(call g a)"} {
			for _, body := range []string{
				"(ret (sel " + e + " 7 8))",
				"(if " + e + " ((set x 7)) ((set x 8))) (ret x)",
				"(if " + e + " ((set x (add x 7))) ()) (if " + e + " () ((set x (add x 8)))) (ret x)",
				"(for i 2 (if i ((set x (sel " + e + " 7 8))) ())) (ret x)",
			} {
				p := parsed(t, "(fun g (a) (ret a)) (export f (a (ptr p 1)) "+body+")")
				if got := wantAsSlow(t, p, 1, row(c, 1), world(row(99, c))); got.Value != want {
					t.Errorf("P12.1: %s of %d: %d; want %d", body, c, got.Value, want)
				}
			}
		}
	}
	p := parsed(t, "(secret k 2) (fun f ((sec a)) (ret (sel a (get k 0) (get k 1))))")
	for c, want := range map[uint64]uint64{0: 0, 1: all, 1 << 63: all, all: all} {
		if got := wantAsSlow(t, p, 0, row(c), world(nil, row(all, 0))); got.Value != want {
			t.Errorf("P12.1: a choice by %d: %d; want %d", c, got.Value, want)
		}
	}
}

// TestIndexAheadOfValue: an index is reckoned ahead of the value, and the element becomes that behind both, whatever these put.
func TestIndexAheadOfValue(t *testing.T) {
	head := "(secret k 3) (fun opens (a) (ret (open a))) (fun puts (i v) (put k i v) (ret v)) (fun at ((ptr p 3) i v) (put p i v) (ret v)) "
	wantLast(t, head+"(export f () (put k (open 1) (open 5)) (ret 0))", nil, world(nil, row(7, 8, 9)), 0, row(1, 5), world(nil, row(7, 5, 9)))
	wantLast(t, head+"(export f () (put k (call opens 2) (add (open 3) (call opens 4))) (ret 0))", nil, world(nil, row(7, 8, 9)), 0, row(2, 3, 4), world(nil, row(7, 8, 7)))
	wantLast(t, head+"(export f ((ptr p 3)) (put p (open (open 1)) (open (call opens (open 5)))) (ret 0))", row(1), world(row(1, 2, 3, 4), row(7, 8, 9)), 0, row(1, 1, 5, 5, 5), world(row(1, 2, 5, 4), row(7, 8, 9)))
	// The value puts to the element itself, to others, or to what the index is of.
	wantLast(t, head+"(export f () (put k 1 (add 1 (call puts 1 5))) (ret 0))", nil, world(nil, row(7, 8, 9)), 0, nil, world(nil, row(7, 6, 9)))
	wantLast(t, head+"(export f () (put k 1 (add 1 (call puts 2 5))) (ret 0))", nil, world(nil, row(7, 8, 9)), 0, nil, world(nil, row(7, 6, 5)))
	wantLast(t, head+"(export f ((ptr p 3)) (put p (get p 0) (add 1 (call at p 0 2))) (ret 0))", row(0), world(row(1, 8, 9), row(7, 8, 9)), 0, nil, world(row(2, 3, 9), row(7, 8, 9)))
	wantLast(t, head+"(export f ((ptr p 3)) (put p (call at p 0 2) (add 1 (get p 0))) (ret 0))", row(0), world(row(1, 8, 9), row(7, 8, 9)), 0, nil, world(row(2, 8, 3), row(7, 8, 9)))
	wantLast(t, head+"(export f ((ptr p 3)) (put p (call at p 1 2) (call at p 2 6)) (ret 0))", row(0), world(row(1, 8, 9), row(7, 8, 9)), 0, nil, world(row(1, 2, 6), row(7, 8, 9)))
	// What is got is looked for behind the index.
	wantLast(t, head+"(export f ((ptr p 3)) (ret (get p (add 1 (sub 2 (call at p 1 2))))))", row(0), world(row(1, 8, 9), row(7, 8, 9)), 2, nil, world(row(1, 2, 9), row(7, 8, 9)))
	// A variable is what it was when it came to its turn.
	wantLast(t, head+"(fun f () (put k 0 1) (set x (add (get k 0) (add (call puts 0 10) (get k 0)))) (ret x))", nil, world(nil, row(7, 8, 9)), 21, nil, world(nil, row(10, 8, 9)))
}

// TestPutBehindTheCaller: a function puts to what its caller reads, ahead of it and behind it.
func TestPutBehindTheCaller(t *testing.T) {
	head := "(secret k 2) (fun g ((ptr p 1) v) (put p 0 v) (put k 1 (add 1 v)) (ret 0)) (fun h ((ptr p 1) v) (put p 0 (add v (call g p v))) (ret (call g p (add v 1)))) (fun id ((sec a) (sec b) (sec c)) (ret (add a (add (mul 100 b) (mul 10000 c))))) "
	for e, want := range map[string]uint64{
		"(add (get p 0) (add (call g p 9) (mul 100 (get p 0))))":         903,
		"(add (add (call g p 9) (get p 0)) (mul 100 (get p 0)))":         909,
		"(add (get p 0) (add (call h p 9) (mul 100 (get p 0))))":         1003,
		"(sel (get p 0) (get p 0) (call g p 9))":                         3,
		"(sel (call g p 9) 1 (get p 0))":                                 9,
		"(sel (get p 0) (call g p 9) (get p 0))":                         0,
		"(sub (get p (call g p 9)) (get p 0))":                           0,
		"(call id (get p 0) (call g p 9) (get p 0))":                     90003,
		"(call id (get k 1) (call g p 9) (get k 1))":                     100008,
		"(call id (call g p 9) (get k 1) (add (call g p 19) (get k 1)))": 201000,
		"(call id (get k 1) (call h p 9) (add (get k 1) 0))":             110008,
	} {
		p := parsed(t, head+"(fun f ((ptr p 1)) (ret "+e+"))")
		if got := wantAsSlow(t, p, 3, row(1), world(row(2, 3, 4), row(7, 8))); got.Value != want {
			t.Errorf("P12.1: %s: %d; want %d", e, got.Value, want)
		}
	}
	wantLast(t, head+"(export f ((ptr p 3)) (set x (get p 0)) (set y (call g p 5)) (for i 3 (set y (call g p (add (get p 0) i)))) (ret (add (mul 100 x) (get p 0))))", row(0), world(row(2, 3, 4), row(7, 8)), 208, nil, world(row(8, 3, 4), row(7, 9)))
}

// TestAllAreReckoned: of a choice, what isn't chosen puts and opens all the same.
func TestAllAreReckoned(t *testing.T) {
	s := "(secret k 3) (fun g (i v) (put k i (open v)) (ret v)) (export f (a) (ret (sel (add a (sub (call g 0 5) 5)) (call g 1 6) (call g 2 7))))"
	wantLast(t, s, row(1), world(nil, row(0, 0, 0)), 6, row(5, 6, 7), world(nil, row(5, 6, 7)))
	wantLast(t, s, row(0), world(nil, row(0, 0, 0)), 7, row(5, 6, 7), world(nil, row(5, 6, 7)))
	// Of an if, what isn't chosen does nothing.
	s = "(secret k 3) (fun g (i v) (put k i (open v)) (ret v)) (export f (a) (if (add a (sub (call g 0 5) 5)) ((set x (call g 1 6))) ((set x (call g 2 7)))) (ret x))"
	wantLast(t, s, row(1), world(nil, row(0, 0, 0)), 6, row(5, 6), world(nil, row(5, 6, 0)))
	wantLast(t, s, row(0), world(nil, row(0, 0, 0)), 7, row(5, 7), world(nil, row(5, 0, 7)))
	// An operation whose other side makes no difference reckons both.
	wantLast(t, "(secret k 3) (fun g (i v) (put k i (open v)) (ret v)) (export f () (ret (add (mul 0 (call g 0 5)) (and (call g 1 0) (or (call g 2 7) 1)))))", nil, world(nil, row(1, 1, 1)), 0, row(5, 0, 7), world(nil, row(5, 0, 7)))
}

// TestNestedDeep: as many parentheses within one another as a source may have.
func TestNestedDeep(t *testing.T) {
	n := api.MaxNest - 2
	wantOpened(t, "(export f (a) (ret "+strings.Repeat("(open ", n)+"a"+strings.Repeat(")", n)+"))", row(7), world(nil), slices.Repeat(row(7), n)...)
	wantValue(t, "(export f (a) (ret "+strings.Repeat("(add 1 ", n)+"a"+strings.Repeat(")", n)+"))", row(7), world(nil), 7+uint64(n))
	wantValue(t, "(export f (a) (ret "+strings.Repeat("(sub ", n)+"a"+strings.Repeat(" 1)", n)+"))", row(7), world(nil), 7-uint64(n)&all)
	n = 11
	wantValue(t, "(export f (a) "+strings.Repeat("(if a (", n-1)+"(set x 5)"+strings.Repeat(") ())", n-1)+" (ret x))", row(7), world(nil), 5)
	wantValue(t, "(export f (a) "+strings.Repeat("(if x () (", n-1)+"(set x 5)"+strings.Repeat("))", n-1)+" (ret x))", row(7), world(nil), 5)
	s, ends := "", ""
	for i := range n - 4 {
		s += fmt.Sprintf("(for i%d 2 ", i)
		ends += ")"
	}
	wantValue(t, "(export f (a) "+s+"(set a (add a 1))"+ends+" (ret a))", row(7), world(nil), 7+1<<(n-4))
}

// padded is a function's source that costs so much, of statements that cost less.
func padded(t *testing.T, head, stmts, ret string, cost int) string {
	t.Helper()
	s := head + stmts + ret
	p := parsed(t, s)
	left := cost - sec.Cost(p, len(p.Funcs)-1)
	if left%2 == 1 {
		stmts += "(for z 2)"
		left -= 3
	}
	for ; left >= 65; left -= 64 {
		stmts += "(for z 63)"
	}
	stmts += strings.Repeat("(set n (add n 1))", left/4) + strings.Repeat("(set m 1)", left%4/2)
	s = head + stmts + ret
	if got := sec.Cost(parsed(t, s), len(p.Funcs)-1); got != cost && cost <= 4000 {
		t.Fatalf("the test is wrong: %s: %d; want %d", s, got, cost)
	}
	return s
}

// TestDear: a function that costs just 4000 may be called, and is run to its end; one that costs more may not.
func TestDear(t *testing.T) {
	for _, x := range []struct {
		head, stmts, ret string
		value            uint64
	}{
		{"(export f (a) ", "(for i 60 (for j 10 (set x (add x a))))", "(ret x))", 600 * 3},
		{"(fun g (a b) (ret (add a b))) (export f (a) ", "(for i 64 (set x (call g x (call g i 1))) (set x (add x a)) (set y (open x)))", "(ret x))", 64*63/2 + 64 + 64*3},
		{"(fun h (a) (for i 10 (set x (add x a))) (ret x)) (fun g (a) (for i 5 (set x (add x (call h a)))) (ret x)) (export f (a) ", "(for i 6 (set x (add x (call g i))))", "(ret x))", 50 * 15},
		{"(export f (a) ", "(for i 64 (if (and i 1) ((for j 10 (set x (add x a)))) ()))", "(ret x))", 320 * 3},
	} {
		p := parsed(t, padded(t, x.head, x.stmts, x.ret, 4000))
		if got := wantAsSlow(t, p, len(p.Funcs)-1, row(3), world(nil)); got.Value != x.value {
			t.Errorf("P12.1: %s: %d; want %d", short(p), got.Value, x.value)
		}
		for _, cost := range []int{4001, 4002, 5000} {
			wantArg(t, parsed(t, padded(t, x.head, x.stmts, x.ret, cost)), len(p.Funcs)-1, row(3), world(nil))
		}
	}
	// Calls alone: as many as there can be.
	p := parsed(t, "(fun g () (ret 1)) (export f () (for i 64 (set x (call g)) "+strings.Repeat("(if (call g) () ())", 14)+") (ret x))")
	if cost := sec.Cost(p, 1); cost < 3800 || cost > 4000 {
		t.Errorf("the test is wrong: %d", cost)
	}
	wantAsSlow(t, p, 1, nil, world(nil))
	// A function whose calls come to no end that is near: 2^31 of them.
	s := "(fun f0 () (ret 1))"
	for i := 1; i < 32; i++ {
		s += fmt.Sprintf("(fun f%d () (ret (add (call f%d) (call f%d))))", i, i-1, i-1)
	}
	p = parsed(t, s)
	for f := range p.Funcs {
		wantArg(t, p, f, nil, world(nil)) // the last ones make the whole source wrong
	}
	p.Funcs = p.Funcs[:9]
	if got := wantAsSlow(t, p, 8, nil, world(nil)); got.Value != 256 {
		t.Errorf("P12.1: %d; want 256", got.Value)
	}
}
