package lex_test

import (
	"fmt"
	"math"
	"math/rand"
	"slices"
	"strconv"
	"strings"
	"testing"

	"caponier/api"
	"caponier/lex"
)

// short is something told in few characters, since some sources are great.
func short(x any) string {
	s := fmt.Sprintf("%q", x)
	if len(s) > 300 {
		return s[:300] + ".."
	}
	return s
}

// wantWords wants a source to have these words.
func wantWords(t *testing.T, s string, want ...string) {
	t.Helper()
	if w, e := lex.Words(s); e != api.OK || !slices.Equal(w, want) {
		t.Errorf("P9.1: %s: %s, %d; want %s", short(s), short(w), e, short(want))
	}
	if w, e := slowWords(s); e != api.OK || !slices.Equal(w, want) {
		t.Errorf("%s: the test is wrong: %s, %d", short(s), short(w), e)
	}
}

// wantNoWords wants a source to have a code that isn't OK, and nothing beside it.
func wantNoWords(t *testing.T, s string, code api.Code) {
	t.Helper()
	if w, e := lex.Words(s); e != code || len(w) != 0 {
		t.Errorf("P9.1: %s: %s, %d; want %d", short(s), short(w), e, code)
	}
	if w, e := slowWords(s); e != code || len(w) != 0 {
		t.Errorf("%s: the test is wrong: %s, %d", short(s), short(w), e)
	}
}

func TestWords(t *testing.T) {
	wantWords(t, "(set x 1)", "(", "set", "x", "1", ")")
	wantWords(t, "a", "a")
	wantWords(t, "set x_1", "set", "x_1")
	for _, blank := range []string{" ", "\t", "\n", "\r", "\r\n", "   ", " \t\n\r ", "\n\n"} {
		wantWords(t, "a"+blank+"b"+blank+"cd", "a", "b", "cd")
		wantWords(t, blank+"a"+blank, "a")
		wantWords(t, "a"+blank+"("+blank+"b"+blank+")"+blank+"c", "a", "(", "b", ")", "c")
		wantWords(t, "("+blank+")", "(", ")")
	}
	wantWords(t, "a(b)c", "a", "(", "b", ")", "c")
	wantWords(t, "a()b()()c", "a", "(", ")", "b", "(", ")", "(", ")", "c")
	wantWords(t, "((a)((b))c)d", "(", "(", "a", ")", "(", "(", "b", ")", ")", "c", ")", "d")
	wantWords(t, "!(~)\"(')#", "!", "(", "~", ")", "\"", "(", "'", ")", "#")
	wantWords(t, "(secret k 2)(export f (a (sec b) (ptr c 3)) (ret (add a 0)))",
		strings.Fields("( secret k 2 ) ( export f ( a ( sec b ) ( ptr c 3 ) ) ( ret ( add a 0 ) ) )")...)
	wantWords(t, "0 00 007 -1 +2 18446744073709551616 a.b Ab 0x1f", "0", "00", "007", "-1", "+2", "18446744073709551616", "a.b", "Ab", "0x1f")
	wantWords(t, "<=>[]{}/*//--,:@?|^&%$`\\", "<=>[]{}/*//--,:@?|^&%$`\\")
}

func TestNoWords(t *testing.T) {
	for _, s := range []string{"", " ", "\t", "\n", "\r", "\r\n", " \t\r\n \n", ";", ";;", ";\n", "; a", ";a\n;b", ";(", ";)\n", " ; \x00", ";\xff\xfe", ";é", "\n\n;"} {
		wantWords(t, s)
	}
}

func TestSemicolons(t *testing.T) {
	wantWords(t, "a;b", "a")
	wantWords(t, "a;b\nc", "a", "c")
	wantWords(t, "a;\nc", "a", "c")
	wantWords(t, "a ; b ; c\nd;e;f\n;g\nh", "a", "d", "h")
	wantWords(t, "(a;)\n);(", "(", "a", ")")
	wantWords(t, "(;)\n)", "(", ")")
	wantWords(t, "(a);(\n", "(", "a", ")")
	wantWords(t, ";a\n;b\nc", "c")
	wantWords(t, "a;\n;\nb", "a", "b")
	wantWords(t, "a;;b\nc", "a", "c")
	// A 13 is a blank, but doesn't end what a semicolon begins.
	wantWords(t, "a;b\rc\nd", "a", "d")
	wantWords(t, "a;b\r\nc", "a", "c")
	wantWords(t, ";a\rb")
	// Behind a semicolon any character may be, even a part of one, just ahead of the 10.
	for c := range 256 {
		if c == '\n' {
			continue
		}
		x := string([]byte{byte(c)})
		wantWords(t, "a;"+x, "a")
		wantWords(t, ";"+x+"\na", "a")
		wantWords(t, "a ; "+x+x+" b\nc", "a", "c")
		wantWords(t, "(;"+x+"\n)", "(", ")")
	}
	for _, x := range append(foul(), "é", "\xf0\x9f\x98", "\xe2\x82", "\xf0", strings.Repeat("(", 30), strings.Repeat(")", 30)) {
		wantWords(t, "a;"+x+"\nb", "a", "b")
		wantWords(t, "a;"+x, "a")
	}
}

func TestCharacters(t *testing.T) {
	for c := range 256 {
		x := string([]byte{byte(c)})
		switch {
		case c == ' ' || c == '\t' || c == '\n' || c == '\r':
			wantWords(t, "a"+x+"b", "a", "b")
			wantWords(t, x)
		case c == '(':
			wantNoWords(t, "a"+x+"b", api.Malformed)
			wantWords(t, "a"+x+"b)", "a", x, "b", ")")
		case c == ')':
			wantNoWords(t, "a"+x+"b", api.Malformed)
			wantWords(t, "(a"+x+"b", "(", "a", x, "b")
		case c == ';':
			wantWords(t, "a"+x+"b", "a")
		case c >= 33 && c <= 126:
			wantWords(t, "a"+x+"b", "a"+x+"b")
			wantWords(t, x, x)
			wantWords(t, "("+x+")", "(", x, ")")
		default:
			for _, s := range []string{x, "a" + x, x + "a", "a " + x + " b", "(" + x + ")", "\n" + x, x + "\n", ";\n" + x, x + ";", "a;b\nc" + x + "d;e"} {
				wantNoWords(t, s, api.Malformed)
			}
		}
	}
	for _, x := range foul() {
		for _, s := range []string{x, "a" + x + "b", "(a) " + x, x + ";", "; " + x + "\n" + x, "a\n" + x + "\n"} {
			wantNoWords(t, s, api.Malformed)
		}
	}
	// Characters of several bytes that would be parentheses, blanks or others, were they looked at by their last byte alone.
	for _, c := range []rune{0x128, 0x129, 0x120, 0x10a, 0x161, 0x13b, 0x2028, 0x2029, 0x10028, 0xa0, 0x3000, 0xfffd} {
		wantNoWords(t, "a"+string(c)+"b", api.Malformed)
	}
}

func TestSourcesNotNestedRight(t *testing.T) {
	for _, s := range []string{
		"(", ")", ")(", "())", "(()", "(a", "a)", "a)(b", "(a))(b)", "(a)(b", "())(()", ")a(", "((a)", "(a)) ((b)", "(a;)", "(a ; b\n", ";(\n)", "(;\n",
	} {
		wantNoWords(t, s, api.Malformed)
	}
	wantWords(t, nest(24), strings.Split(nest(24), "")...)
	wantNoWords(t, nest(25), api.Malformed)
	wantNoWords(t, nest(26), api.Malformed)
	wantNoWords(t, nest(10000), api.Malformed)
	wantWords(t, nest(24)+nest(24), strings.Split(nest(24)+nest(24), "")...)
	wantNoWords(t, nest(24)+nest(25), api.Malformed)
	wantNoWords(t, "("+nest(24)+")", api.Malformed)
	wantNoWords(t, "(()"+nest(24)+")", api.Malformed)
	wantWords(t, "(()"+nest(23)+")", strings.Split("(()"+nest(23)+")", "")...)
	wantNoWords(t, strings.Repeat("(", 24), api.Malformed)
	wantNoWords(t, strings.Repeat("(", 24)+strings.Repeat(")", 23), api.Malformed)
	wantNoWords(t, strings.Repeat("(", 24)+strings.Repeat(")", 25), api.Malformed)
}

func TestSize(t *testing.T) {
	for _, s := range []string{" ", "\n", ";", "\t", "a", "; é", "(a)", "é", "\x00", ")", "("} {
		long := strings.Repeat(s, 20001)
		wantNoWords(t, long[:20001], api.Size)
	}
	wantNoWords(t, strings.Repeat(" ", 20001), api.Size)
	wantNoWords(t, strings.Repeat("(", 20001), api.Size)
	wantNoWords(t, ")"+strings.Repeat("\x00", 20000), api.Size)
	wantNoWords(t, strings.Repeat("a", 1<<20), api.Size)
	wantNoWords(t, ";"+strings.Repeat("x", 20000), api.Size)
	// Characters are bytes, behind a semicolon too.
	wantNoWords(t, ";"+strings.Repeat("é", 10000), api.Size)
	wantWords(t, "; "+strings.Repeat("é", 9999))

	wantWords(t, strings.Repeat(" ", 20000))
	wantWords(t, ";"+strings.Repeat("x", 19999))
	wantWords(t, strings.Repeat("a", 20000), strings.Repeat("a", 20000))
	wantWords(t, strings.Repeat("a ", 10000), slices.Repeat([]string{"a"}, 10000)...)
	wantWords(t, strings.Repeat("()", 10000), slices.Repeat([]string{"(", ")"}, 10000)...)
	wantWords(t, strings.Repeat("\n", 19999)+"a", "a")
	wantNoWords(t, strings.Repeat(" ", 19999)+"(", api.Malformed)
	wantNoWords(t, strings.Repeat(" ", 19999)+"\x00", api.Malformed)
	wantNoWords(t, strings.Repeat("\x00", 20000), api.Malformed)
}

// wantNested wants words to be nested right, or not, for Nested and Items alike.
func wantNested(t *testing.T, want bool, l ...string) {
	t.Helper()
	if is := lex.Nested(l); is != want {
		t.Errorf("P9.1: Nested of %s is %v", short(l), is)
	}
	if is := slowNested(l); is != want {
		t.Errorf("%s: the test is wrong: %v", short(l), is)
	}
	items, e := lex.Items(l)
	if (e == api.OK) != want || !want && (e != api.Malformed || len(items) != 0) {
		t.Errorf("P9.3: Items of %s is %s, %d; nested right: %v", short(l), short(items), e, want)
	}
}

func TestNested(t *testing.T) {
	wantNested(t, true)
	wantNested(t, true, []string{}...)
	for _, s := range []string{"a", "a b", "( )", "( a )", "a ( ) b", "( ) ( )", "( ( a ) ( b ) ) c", "( ( ( ) ) )"} {
		wantNested(t, true, strings.Fields(s)...)
	}
	for _, s := range []string{"(", ")", ") (", "( ) )", "( ( )", "a )", "( a", "( ) ) ( ( )", ") ) ( (", "a ) ( b", "( ( ( ) )", "( ) ("} {
		wantNested(t, false, strings.Fields(s)...)
	}
	for _, n := range []int{1, 2, 23, 24} {
		wantNested(t, true, strings.Split(nest(n), "")...)
		wantNested(t, true, strings.Split(nest(n)+nest(24), "")...)
		wantNested(t, false, strings.Split(nest(n)+")", "")...)
		wantNested(t, false, strings.Split(nest(n)[1:], "")...)
	}
	for _, n := range []int{25, 26, 48, 49, 256, 1000} {
		wantNested(t, false, strings.Split(nest(n), "")...)
		wantNested(t, false, strings.Split(nest(24)+nest(n), "")...)
	}
	// More words than a source may have.
	wantNested(t, true, slices.Repeat([]string{"(", "a", ")"}, 50000)...)
	wantNested(t, false, append(slices.Repeat([]string{"(", "a", ")"}, 50000), ")")...)
	// What only looks like a parenthesis opens and closes nothing.
	for _, w := range []string{"", "((", "))", "()", "(a", "a)", " (", ") ", "(\n", "[", "]", "{", "（", "\x28\x00"} {
		wantNested(t, true, w)
		wantNested(t, true, "(", w, ")")
		wantNested(t, false, "(", w)
		wantNested(t, false, w, ")")
	}
}

func TestNumber(t *testing.T) {
	for w, want := range map[string]uint64{
		"0": 0, "1": 1, "9": 9, "10": 10, "64": 64, "100": 100, "4294967296": 1 << 32, "9223372036854775807": 1<<63 - 1, "9223372036854775808": 1 << 63,
		"9999999999999999999": 9999999999999999999, "10000000000000000000": 10000000000000000000, "18446744073709551609": math.MaxUint64 - 6, "18446744073709551614": math.MaxUint64 - 1, "18446744073709551615": math.MaxUint64,
	} {
		if n, ok := lex.Number(w); !ok || n != want {
			t.Errorf("P9.2: Number(%q) is %d, %v", w, n, ok)
		}
		if n, ok := slowNumber(w); !ok || n != want {
			t.Errorf("%q: the test is wrong", w)
		}
		if got := lex.Digits(want); got != w {
			t.Errorf("P9.2: Digits(%d) is %q", want, got)
		}
	}
}

func TestNoNumber(t *testing.T) {
	words := []string{
		"", " ", "(", ")", "a", "x1", "_", "set", "-", "+", ".", ";",
		"00", "01", "007", "-0", "+0", "-1", "+1", "--1", "1-", "1+", "0x1", "0X1", "0b1", "0o7", "1_000", "1e3", "1.0", "1.", ".1", "1,0", "1a", "a1", "1 ", " 1", "1\n", "1\x00", "\x001", "1 2", "f", "ff", "1f",
		"18446744073709551616", "18446744073709551617", "18446744073709551620", "18446744073709551625", "20000000000000000000", "28446744073709551615", "36893488147419103232", "99999999999999999999",
		"100000000000000000000", "184467440737095516150", "018446744073709551615", "999999999999999999999", "000000000000000000001", "00000000000000000001", "01844674407370955161",
		"340282366920938463463374607431768211456", "18446744073709551616000000000000000000000",
		"１", "٣", "²", "1²", "½", "\xb1", "1\xff",
	}
	for c := range 256 { // What isn't a digit is none anywhere.
		if c < '0' || c > '9' {
			x := string([]byte{byte(c)})
			words = append(words, x, "1"+x, x+"1", "1"+x+"1", "0"+x, x+"0")
		}
	}
	words = append(words, strings.Repeat("0", 20), strings.Repeat("0", 21), strings.Repeat("1", 21), strings.Repeat("9", 100000))
	for _, w := range words {
		if n, ok := lex.Number(w); ok || n != 0 {
			t.Errorf("P9.2: Number(%s) is %d, %v; it is none", short(w), n, ok)
		}
		if n, ok := slowNumber(w); ok || n != 0 {
			t.Errorf("%s: the test is wrong", short(w))
		}
	}
}

func TestDigits(t *testing.T) {
	numbers := []uint64{0, math.MaxUint64}
	for i := range 64 {
		numbers = append(numbers, 1<<i, 1<<i-1, 1<<i+1, math.MaxUint64-1<<i)
	}
	for n := uint64(1); n < math.MaxUint64/10; n *= 10 {
		numbers = append(numbers, n-1, n, n+1, 5*n, 10*n-1, 10*n)
	}
	r := rand.New(rand.NewSource(9))
	for range 5000 {
		numbers = append(numbers, r.Uint64()>>r.Intn(64))
	}
	for _, n := range numbers {
		w := lex.Digits(n)
		if w != slowDigits(n) {
			t.Errorf("P9.2: Digits(%d) is %q", n, w)
		}
		if m, ok := lex.Number(w); !ok || m != n {
			t.Errorf("P9.2: Number(%q) is %d, %v", w, m, ok)
		}
	}
}

func TestNumberAtRandom(t *testing.T) {
	r := rand.New(rand.NewSource(92))
	yes, no := 0, 0
	for range 50000 {
		var w []byte
		for range r.Intn(23) {
			w = append(w, byte('0'+r.Intn(10)))
		}
		if len(w) == 20 && r.Intn(4) > 0 {
			w[0], w[1] = '1', byte('7'+r.Intn(2))
		}
		n, ok := lex.Number(string(w))
		if m, is := slowNumber(string(w)); n != m || ok != is {
			t.Fatalf("P9.2: Number(%q) is %d, %v; want %d, %v", w, n, ok, m, is)
		}
		if ok {
			yes++
		} else {
			no++
		}
	}
	if yes < 1000 || no < 1000 {
		t.Errorf("the test is wrong: %d, %d", yes, no)
	}
}

// wantItems wants words, told with blanks between them, to have these items, told likewise.
func wantItems(t *testing.T, s string, want ...string) {
	t.Helper()
	l := strings.Fields(s)
	items, e := lex.Items(l)
	got := make([]string, len(items))
	for i, x := range items {
		got[i] = strings.Join(x, " ")
	}
	if e != api.OK || !slices.Equal(got, want) {
		t.Errorf("P9.3: Items of %q is %q, %d; want %q", s, got, e, want)
	}
}

func TestItems(t *testing.T) {
	wantItems(t, "")
	wantItems(t, "a", "a")
	wantItems(t, "a b 12", "a", "b", "12")
	wantItems(t, "( )", "( )")
	wantItems(t, "( ) ( )", "( )", "( )")
	wantItems(t, "( set x 1 )", "( set x 1 )")
	wantItems(t, "a ( b ) c", "a", "( b )", "c")
	wantItems(t, "( a ) b ( c )", "( a )", "b", "( c )")
	wantItems(t, "( ( a ) ( b ) ) ( c ( d ( e ) ) ) f", "( ( a ) ( b ) )", "( c ( d ( e ) ) )", "f")
}

func TestNestedItems(t *testing.T) {
	deep := strings.Split(nest(24), "")
	for n := range 5 {
		items, e := lex.Items(slices.Repeat(deep, n))
		if e != api.OK || len(items) != n {
			t.Fatalf("P9.3: %d times: %d, %d", n, len(items), e)
		}
		for _, x := range items {
			if !slices.Equal(x, deep) {
				t.Errorf("P9.3: %q", x)
			}
		}
	}
	many := slices.Repeat([]string{"a", "(", "b", "(", ")", ")"}, 20000)
	items, e := lex.Items(many)
	if e != api.OK || len(items) != 40000 || !slices.Equal(slices.Concat(items...), many) {
		t.Errorf("P9.3: %d, %d", len(items), e)
	}
}

// TestItemsOfWhatIsNoWord: whatever isn't just a parenthesis is an item by itself.
func TestItemsOfWhatIsNoWord(t *testing.T) {
	l := []string{"", "((", "(a)", " (", "(", "))", "", ")", ") ", ";", "\n", "é"}
	items, e := lex.Items(l)
	if e != api.OK || len(items) != 9 || !slices.Equal(items[4], l[4:8]) || !slices.Equal(items[0], l[:1]) || !slices.Equal(items[8], l[11:]) {
		t.Errorf("P9.3: %q, %d", items, e)
	}
}

func TestWordsAtRandom(t *testing.T) {
	r := rand.New(rand.NewSource(91))
	codes := map[api.Code]int{}
	for range 30000 {
		s := randomSource(r)
		w, e := lex.Words(s)
		want, code := slowWords(s)
		if e != code || !slices.Equal(w, want) {
			t.Fatalf("P9.1: %q: %q, %d; want %q, %d", s, w, e, want, code)
		}
		codes[e]++
	}
	if codes[api.OK] < 5000 || codes[api.Malformed] < 5000 {
		t.Errorf("the test is wrong: %v", codes)
	}
}

// TestShortSources goes through all sources of up to five of these characters.
func TestShortSources(t *testing.T) {
	row := []string{""}
	for range 5 {
		for _, s := range row {
			for _, c := range []string{"a", "(", ")", ";", "\n", " ", "\xc3"} {
				x := s + c
				w, e := lex.Words(x)
				if want, code := slowWords(x); e != code || !slices.Equal(w, want) {
					t.Fatalf("P9.1: %q: %q, %d; want %q, %d", x, w, e, want, code)
				}
			}
		}
		row = longer(row)
	}
}

// longer is each of these texts with each character behind it.
func longer(row []string) []string {
	var l []string
	for _, s := range row {
		for _, c := range []string{"a", "(", ")", ";", "\n", " ", "\xc3"} {
			l = append(l, s+c)
		}
	}
	return l
}

func TestItemsAtRandom(t *testing.T) {
	r := rand.New(rand.NewSource(93))
	codes := map[api.Code]int{}
	deepest := 0
	for range 10000 {
		l := randomRow(r)
		items, e := lex.Items(l)
		want, code := slowItems(l)
		if e != code || short(items) != short(want) || len(items) != len(want) || lex.Nested(l) != (code == api.OK) {
			t.Fatalf("P9.3: %q: %q, %d; want %q, %d", l, items, e, want, code)
		}
		codes[e]++
		if open := 0; e == api.OK {
			for _, w := range l {
				open += map[string]int{"(": 1, ")": -1}[w]
				deepest = max(deepest, open)
			}
		}
	}
	if codes[api.OK] < 1000 || codes[api.Malformed] < 1000 || deepest != 24 {
		t.Errorf("the test is wrong: %v, %d", codes, deepest)
	}
}

// TestLimits: the numbers that the tests write out are api's.
func TestLimits(t *testing.T) {
	if api.MaxSource != 20000 || api.MaxNest != 24 || strconv.IntSize != 64 {
		t.Error("the test is wrong")
	}
}
