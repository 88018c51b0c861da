package lex_test

import (
	"math/rand"
	"slices"
	"strings"
	"testing"

	"caponier/api"
	"caponier/lex"
)

// sources are some that have words, among them those that are made at random.
func sources() []string {
	l := []string{
		"", ";", "a", "(set x 1)", "a;b\nc", "(a;)\n)", "(secret k 1)(export f () (ret (open (get k 0))))\r\n", nest(24), "  a\t( b)\n;\x00\n",
		strings.Repeat("a ", 9999) + "b", strings.Repeat("()", 5000), strings.Repeat("x", 20000),
	}
	r := rand.New(rand.NewSource(94))
	for range 5000 {
		if s := randomSource(r); len(s) > 0 {
			l = append(l, s)
		}
	}
	return l
}

func TestWordsPutTogether(t *testing.T) {
	told := 0
	for _, s := range sources() {
		w, e := lex.Words(s)
		if e != api.OK {
			continue
		}
		for _, blank := range []string{" ", "\t", "\n", "\r"} {
			if again, e := lex.Words(strings.Join(w, blank)); e != api.OK || !slices.Equal(again, w) {
				t.Errorf("P9.4: %s: the words %s become %s, %d", short(s), short(w), short(again), e)
			}
		}
		items, e := lex.Items(w)
		if e != api.OK || !slices.Equal(slices.Concat(items...), w) {
			t.Errorf("P9.4: %s: the words %s become the items %s, %d", short(s), short(w), short(items), e)
		}
		if !lex.Nested(w) {
			t.Errorf("P9.4: %s isn't nested right", short(w))
		}
		told++
	}
	if told < 1500 {
		t.Errorf("the test is wrong: %d", told)
	}
}

// TestWordsTooLongPutTogether: with blanks between them, words may be more than a source may have.
func TestWordsTooLongPutTogether(t *testing.T) {
	w, e := lex.Words(strings.Repeat("()", 5001))
	if e != api.OK || len(w) != 10002 {
		t.Fatalf("P9.1: %d, %d", len(w), e)
	}
	wantWords(t, strings.Join(w[:10000], " "), w[:10000]...)
	wantNoWords(t, strings.Join(w, " "), api.Size)
	if items, e := lex.Items(w); e != api.OK || len(items) != 5001 {
		t.Errorf("P9.3: %d, %d", len(items), e)
	}
}

// TestItemsOfItems goes into parentheses, down to single words: each item is one item, and what it holds is items again.
func TestItemsOfItems(t *testing.T) {
	w, _ := lex.Words("(export f (a (sec b)) (if (sltu a 2) ((set c 1)) ()) (ret (add a c))) x () (())")
	var leaves []string
	var walk func(l []string)
	walk = func(l []string) {
		items, e := lex.Items(l)
		if e != api.OK {
			t.Fatalf("P9.4: %q: %d", l, e)
		}
		for _, x := range items {
			if one, e := lex.Items(x); e != api.OK || len(one) != 1 || !slices.Equal(one[0], x) {
				t.Errorf("P9.4: the item %q has items %q, %d", x, one, e)
			}
			if len(x) == 1 {
				leaves = append(leaves, x[0])
				continue
			}
			leaves = append(leaves, x[0])
			walk(x[1 : len(x)-1])
			leaves = append(leaves, x[len(x)-1])
		}
	}
	walk(w)
	if !slices.Equal(leaves, w) {
		t.Errorf("P9.4: %q; want %q", leaves, w)
	}
}

func TestNothingHandedInIsChanged(t *testing.T) {
	room := strings.Fields("a ( b ) c ( ( d ) ) spare ( )")
	was := slices.Clone(room)
	l := room[:10]
	items, e := lex.Items(l)
	if e != api.OK || !lex.Nested(l) || !slices.Equal(room, was) {
		t.Fatalf("rule 3: %q, %d; %q", items, e, room)
	}
	told := short(items)
	for i := range room {
		room[i] = "over"
	}
	if short(items) != told {
		t.Errorf("rule 3: the items change with the words: %q", items)
	}
	// No item shares with another, nor with the words.
	copy(room, was)
	for i := range items {
		for j := range items[i] {
			items[i][j] = "mine"
		}
		items[i] = append(items[i], "more", "more")
		for k := i + 1; k < len(items); k++ {
			if slices.Contains(items[k], "mine") || slices.Contains(items[k], "more") {
				t.Errorf("rule 3: items %d and %d share", i, k)
			}
		}
	}
	if !slices.Equal(room, was) {
		t.Errorf("rule 3: the words change with the items: %q", room)
	}

	s := "(a b) c"
	one, _ := lex.Words(s)
	one[0] = "over"
	if two, _ := lex.Words(s); !slices.Equal(two, []string{"(", "a", "b", ")", "c"}) {
		t.Errorf("rule 3: %q", two)
	}
}

// TestCallsHangOnNothingElse asks the same, with other calls between.
func TestCallsHangOnNothingElse(t *testing.T) {
	r := rand.New(rand.NewSource(5))
	for range 200 {
		s, l := randomSource(r), randomRow(r)
		words, e := lex.Words(s)
		items, code := lex.Items(l)
		lex.Words("(a (b c") // wrong ones
		lex.Words("\x00")
		lex.Items([]string{"(", ")", ")"})
		lex.Nested([]string{"(", "("})
		lex.Number("x")
		again, f := lex.Words(s)
		more, c := lex.Items(l)
		if !slices.Equal(words, again) || e != f || short(items) != short(more) || code != c {
			t.Fatalf("rule 5: %q, %q", s, l)
		}
	}
}
