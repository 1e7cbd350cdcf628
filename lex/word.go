package lex

import (
	"scrimshaw/api"
	"strconv"
	"strings"
)

const leastInt = -api.MaxInt - 1

// ofWord is the token of a word, which is a dot, a number or a symbol.
func ofWord(word string) (api.Token, api.Errno) {
	if word == "." {
		return api.Token{Kind: api.TokDot}, api.OK
	}
	if isNumeral(word) {
		return ofNumeral(word)
	}
	if len(word) > api.MaxName {
		return api.Token{}, api.ErrLexName
	}
	// An answer shares no memory with the source.
	return api.Token{Kind: api.TokSymbol, Text: strings.Clone(word)}, api.OK
}

// isNumeral tells whether a word is digits, or a sign and digits, however many.
func isNumeral(word string) bool {
	digits := word
	if digits[0] == '+' || digits[0] == '-' {
		digits = digits[1:]
	}
	return digits != "" && strings.Trim(digits, "0123456789") == ""
}

func ofNumeral(word string) (api.Token, api.Errno) {
	n, err := strconv.Atoi(word)
	if err != nil || n < leastInt || n > api.MaxInt {
		return api.Token{}, api.ErrLexNumber
	}
	return api.Token{Kind: api.TokInt, Int: n}, api.OK
}
