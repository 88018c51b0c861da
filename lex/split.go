package lex

import "strings"

// The kinds of characters.
const (
	wrong = iota
	plain
	blank
	parenthesis
	semicolon
)

// kindOf is a character's kind. A line's end (10) isn't among them, since lines come without it.
func kindOf(c rune) int {
	switch {
	case c == ' ' || c == '\t' || c == '\r':
		return blank
	case c == '(' || c == ')':
		return parenthesis
	case c == ';':
		return semicolon
	case c > ' ' && c <= '~':
		return plain
	}
	return wrong
}

// split cuts a source into its words, and tells whether all characters that count may be. Several bytes may come as one character, but all of them are above 126 then: what counts is wrong with each of them, and no word's end is missed.
func split(s string) ([]string, bool) {
	var words []string
lines:
	for _, line := range strings.Split(s, "\n") {
		begin := 0
		for i, c := range line {
			kind := kindOf(c)
			switch kind {
			case wrong:
				return nil, false
			case plain:
				continue
			}
			words = put(words, line[begin:i])
			begin = i + 1
			switch kind {
			case semicolon:
				continue lines
			case parenthesis:
				words = append(words, line[i:begin])
			}
		}
		words = put(words, line[begin:])
	}
	return words, true
}

// put adds a row of characters, but an empty one, since that is no word.
func put(words []string, row string) []string {
	if row == "" {
		return words
	}
	return append(words, row)
}
