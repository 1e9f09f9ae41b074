// Package lex is layer 1, tokens: see shared/doc/01-lex.md.
package lex

import (
	"strings"

	"switchback/api"
)

// Lex cuts a source into tokens.
func Lex(src string) ([]api.Token, int, api.Errno) {
	if len(src) > api.MaxSource {
		return nil, 0, api.ErrLong
	}
	var tokens []api.Token
	at := 0
	for {
		begin, e := skip(src, at)
		if e != api.OK {
			return nil, begin, e
		}
		if begin == len(src) {
			return append(tokens, api.Token{Kind: api.TokEnd, At: begin}), 0, api.OK
		}
		token, length, e := read(src[begin:])
		// The end needs a place of its own, so the last one that is allowed is kept free for it.
		if e == api.OK && len(tokens) == api.MaxTokens-1 {
			e = api.ErrLexMany
		}
		if e != api.OK {
			return nil, begin, e
		}
		token.At = begin
		tokens = append(tokens, token)
		at = begin + length
	}
}

// skip goes past blanks and comments; at a comment that is not closed it stays.
func skip(src string, at int) (int, api.Errno) {
	for at < len(src) {
		rest := src[at:]
		switch {
		case isBlank(rest[0]):
			at++
		case strings.HasPrefix(rest, "//"):
			at += lineComment(rest)
		case strings.HasPrefix(rest, "/*"):
			// Behind the opening: its star is not the closing's.
			inside := strings.Index(rest[2:], "*/")
			if inside < 0 {
				return at, api.ErrLexComment
			}
			at += 2 + inside + 2
		default:
			return at, api.OK
		}
	}
	return at, api.OK
}

// lineComment tells how long the comment is that goes to the end of its line.
func lineComment(s string) int {
	if length := strings.IndexByte(s, '\n'); length >= 0 {
		return length
	}
	return len(s)
}

// read makes the token with which s begins, and tells its length.
func read(s string) (api.Token, int, api.Errno) {
	switch {
	case isLetter(s[0]):
		return readName(s)
	case isDigit(s[0]):
		return readNumber(s)
	case s[0] == '\'':
		return readCharacter(s)
	}
	length := signLength(s)
	if length == 0 {
		return api.Token{}, 0, api.ErrLexByte
	}
	return api.Token{Kind: api.TokSign, Text: strings.Clone(s[:length])}, length, api.OK
}

func readName(s string) (api.Token, int, api.Errno) {
	length := runLength(s)
	if isWord(s[:length]) {
		return api.Token{Kind: api.TokWord, Text: strings.Clone(s[:length])}, length, api.OK
	}
	if length > api.MaxName {
		return api.Token{}, 0, api.ErrLexName
	}
	return api.Token{Kind: api.TokName, Text: strings.Clone(s[:length])}, length, api.OK
}

func readNumber(s string) (api.Token, int, api.Errno) {
	length := runLength(s)
	num, unsigned, ok := number(s[:length])
	if !ok {
		return api.Token{}, 0, api.ErrLexNumber
	}
	return api.Token{Kind: api.TokNum, Num: num, Unsigned: unsigned}, length, api.OK
}

func readCharacter(s string) (api.Token, int, api.Errno) {
	num, length := character(s)
	if length == 0 {
		return api.Token{}, 0, api.ErrLexChar
	}
	return api.Token{Kind: api.TokNum, Num: uint32(num)}, length, api.OK
}

// runLength tells how many letters and digits s begins with.
func runLength(s string) int {
	for i := range len(s) {
		if !isLetter(s[i]) && !isDigit(s[i]) {
			return i
		}
	}
	return len(s)
}

// character tells the byte that the character at the beginning of s is, and its length; the length 0: none begins there.
func character(s string) (byte, int) {
	if len(s) >= 3 && s[1] != '\'' && s[1] != '\\' && s[1] != '\n' && s[2] == '\'' {
		return s[1], 3
	}
	if len(s) >= 4 && s[1] == '\\' && s[3] == '\'' {
		if b, ok := escaped(s[2]); ok {
			return b, 4
		}
	}
	return 0, 0
}

// escaped tells which byte is meant by b behind a backslash.
func escaped(b byte) (byte, bool) {
	switch b {
	case 'n':
		return '\n', true
	case 't':
		return '\t', true
	case 'r':
		return '\r', true
	case '0':
		return 0, true
	case '\\', '\'', '"':
		return b, true
	}
	return 0, false
}

// signLength tells how long the longest sign is with which s begins; 0: none does.
// Each case tries what is longer first, and leaves the rest to the case behind it.
func signLength(s string) int {
	first, second, third := s[0], byteAt(s, 1), byteAt(s, 2)
	switch first {
	case '<', '>':
		if second == first && third == '=' {
			return 3
		}
		fallthrough
	case '+', '-', '&', '|':
		if second == first {
			return 2
		}
		fallthrough
	case '=', '!', '*', '/', '%', '^':
		if second == '=' {
			return 2
		}
		fallthrough
	case '~', '?', ':', ';', ',', '(', ')', '[', ']', '{', '}':
		return 1
	}
	return 0
}

// byteAt is the byte at that place of s; behind its end 0, which is in no sign.
func byteAt(s string, at int) byte {
	if at < len(s) {
		return s[at]
	}
	return 0
}

func isBlank(b byte) bool {
	return 9 <= b && b <= 13 || b == 32
}

func isLetter(b byte) bool {
	return 'a' <= b && b <= 'z' || 'A' <= b && b <= 'Z' || b == '_'
}

func isDigit(b byte) bool {
	return '0' <= b && b <= '9'
}

func isWord(s string) bool {
	switch s {
	case "break", "case", "char", "continue", "default", "do", "else", "enum", "for", "goto", "if", "int",
		"return", "switch", "unsigned", "void", "while":
		return true
	}
	return false
}
