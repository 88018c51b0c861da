package lex_test

import (
	"math/big"
	"math/rand"
	"strings"

	"caponier/api"
)

// The tests' own, slow way of doing what the chapter says, for all that the layer is held against, and sources and rows of words that are made at random.

// counts tells whether a character of a source counts: whether there is no semicolon in its line, ahead of it or there.
func counts(s string, i int) bool {
	line := s[strings.LastIndexByte(s[:i], '\n')+1 : i+1]
	return !strings.Contains(line, ";")
}

// slowWords makes blanks of all that doesn't count, and looks at bytes alone.
func slowWords(s string) ([]string, api.Code) {
	if len(s) > 20000 {
		return nil, api.Size
	}
	var b strings.Builder
	for i := range len(s) {
		c := s[i]
		switch {
		case c == '\n' || !counts(s, i):
			b.WriteByte(' ')
		case c == ' ' || c == '\t' || c == '\r':
			b.WriteByte(' ')
		case c < 33 || c > 126:
			return nil, api.Malformed
		case c == '(' || c == ')':
			b.WriteString(" " + string(rune(c)) + " ")
		default:
			b.WriteByte(c)
		}
	}
	words := strings.FieldsFunc(b.String(), func(r rune) bool { return r == ' ' })
	if !slowNested(words) {
		return nil, api.Malformed
	}
	return words, api.OK
}

// slowNested takes away all pairs that have nothing in them, as often as there may be some open: each time one fewer is.
func slowNested(l []string) bool {
	var b strings.Builder
	for _, w := range l {
		if w == "(" || w == ")" {
			b.WriteString(w)
		}
	}
	s := b.String()
	for range 24 {
		s = strings.ReplaceAll(s, "()", "")
	}
	return s == ""
}

// slowItems looks for the first words that are nested right by themselves, and then for the next.
func slowItems(l []string) ([][]string, api.Code) {
	if !slowNested(l) {
		return nil, api.Malformed
	}
	var items [][]string
	for len(l) > 0 {
		n := 1
		for !slowNested(l[:n]) {
			n++
		}
		items = append(items, l[:n])
		l = l[n:]
	}
	return items, api.OK
}

// slowNumber reckons with numbers of any size.
func slowNumber(w string) (uint64, bool) {
	if len(w) < 1 || len(w) > 20 || strings.Trim(w, "0123456789") != "" || w[0] == '0' && len(w) > 1 {
		return 0, false
	}
	if n, _ := new(big.Int).SetString(w, 10); n.IsUint64() {
		return n.Uint64(), true
	}
	return 0, false
}

// slowDigits divides by 10 again and again.
func slowDigits(n uint64) string {
	var w string
	for b := new(big.Int).SetUint64(n); ; {
		digit := new(big.Int)
		b.DivMod(b, big.NewInt(10), digit)
		w = string(rune('0'+digit.Int64())) + w
		if b.Sign() == 0 {
			return w
		}
	}
}

// nest is n opening parentheses, and as many closing ones.
func nest(n int) string {
	return strings.Repeat("(", n) + strings.Repeat(")", n)
}

// pieces are parts of sources; some may not be everywhere.
func pieces() []string {
	return []string{
		" ", "\t", "\n", "\r", "\r\n", "  ", "\n\n", "(", ")", "(", ")", "( ", " )", "()", "(a)", "((", "))",
		"a", "b1", "set", "_", "0", "12", "18446744073709551615", "!", "~", "\"", "#", "'", "\\", "{", "a-b",
		";", ";\n", "; and (\n", ";)\n", "a;b\n", ";;", "; \x00\xff é\n", ";\r", ";\t\n",
	}
}

// foul are characters that may not be, but behind a semicolon.
func foul() []string {
	return []string{"\x00", "\x01", "\x0b", "\x0c", "\x1f", "\x7f", "\x80", "\xff", "é", "\u00a0", "\u2028", "😀", "\xe2\x82", "\xc3", "\u0085"}
}

// randomSource is a source of pieces, with something foul in it now and then, most often nested right.
func randomSource(r *rand.Rand) string {
	var b strings.Builder
	open, all := 0, pieces()
	for range r.Intn(40) {
		p := all[r.Intn(len(all))]
		if strings.HasSuffix(p, ")") && open == 0 && r.Intn(40) > 0 {
			continue
		}
		if r.Intn(120) == 0 {
			p = foul()[r.Intn(len(foul()))]
		}
		open += strings.Count(p, "(") - strings.Count(p, ")")
		b.WriteString(p)
	}
	if r.Intn(10) > 0 {
		b.WriteString("\n" + strings.Repeat(")", max(open, 0)))
	}
	return b.String()
}

// randomRow is a row of words, and of what is none, now and then too deep, or not nested right.
func randomRow(r *rand.Rand) []string {
	some := []string{"a", "set", "12", "()", ")(", "", "((", " (", "( ", ";", "\n", "é"}
	deepest := []int{1, 3, 24, 26}[r.Intn(4)]
	var l []string
	open := 0
	for range r.Intn(120) {
		switch d := r.Intn(3); {
		case d == 0 && open < deepest:
			l, open = append(l, "("), open+1
		case d == 1 && open > 0 && r.Intn(deepest) < 2:
			l, open = append(l, ")"), open-1
		case d == 2:
			l = append(l, some[r.Intn(len(some))])
		}
	}
	for range open {
		l = append(l, ")")
	}
	if r.Intn(8) == 0 && len(l) > 0 {
		l[r.Intn(len(l))] = []string{"(", ")"}[r.Intn(2)]
	}
	return l
}
