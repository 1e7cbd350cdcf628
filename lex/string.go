package lex

import (
	"scrimshaw/api"
	"strings"
)

// ofString is the token of what begins with a ".
func ofString(s string) (api.Token, int, api.Errno) {
	var text strings.Builder
	for at := 1; at < len(s); {
		if s[at] == '"' {
			return api.Token{Kind: api.TokString, Text: text.String()}, at + 1, api.OK
		}
		b, size := stringByte(s[at:])
		if size == 0 {
			return api.Token{}, 0, api.ErrLexText
		}
		text.WriteByte(b)
		at += size
	}
	return api.Token{}, 0, api.ErrLexText
}

// stringByte is the byte that s (which has a byte at least) begins to say within a string, and in how many bytes it does; in none, if it says no byte.
func stringByte(s string) (byte, int) {
	if s[0] != '\\' {
		return s[0], 1
	}
	if len(s) == 1 {
		return 0, 0
	}
	switch s[1] {
	case '"', '\\':
		return s[1], 2
	case 'n':
		return newline, 2
	case 'x':
		if n, ok := hexByte(s[2:min(4, len(s))]); ok {
			return byte(n), 4
		}
	}
	return 0, 0
}
