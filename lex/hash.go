package lex

import (
	"scrimshaw/api"
	"strconv"
	"strings"
)

// ofHash is the token of what begins with a #.
func ofHash(s string) (api.Token, int, api.Errno) {
	if strings.HasPrefix(s, "#(") {
		return api.Token{Kind: api.TokVector}, 2, api.OK
	}
	if strings.HasPrefix(s, `#\`) {
		return ofChar(s)
	}
	size := 1 + wordSize(s[1:])
	switch s[:size] {
	case "#t":
		return api.Token{Kind: api.TokBool, Int: 1}, size, api.OK
	case "#f":
		return api.Token{Kind: api.TokBool}, size, api.OK
	}
	return api.Token{}, 0, api.ErrLexHash
}

// ofChar is the token of what begins with a # and a backslash.
func ofChar(s string) (api.Token, int, api.Errno) {
	const ahead = 2
	if len(s) == ahead {
		return api.Token{}, 0, api.ErrLexHash
	}
	// What is no name byte stands for itself, alone.
	size := ahead + max(1, wordSize(s[ahead:]))
	n, ok := charByte(s[ahead:size])
	if !ok {
		return api.Token{}, 0, api.ErrLexHash
	}
	return api.Token{Kind: api.TokChar, Int: n}, size, api.OK
}

// charByte is the byte that a character's name (of a byte at least) says.
func charByte(name string) (int, bool) {
	switch {
	case len(name) == 1:
		return int(name[0]), true
	case name == "space":
		return blank, true
	case name == "newline":
		return newline, true
	case name[0] == 'x':
		return hexByte(name[1:])
	}
	return 0, false
}

// hexByte is the number of two digits of base sixteen; of nothing else.
func hexByte(digits string) (int, bool) {
	if len(digits) != 2 {
		return 0, false
	}
	n, err := strconv.ParseUint(digits, 16, 8)
	if err != nil {
		return 0, false
	}
	return int(n), true
}
