package text

import (
	"iter"
	"strings"
)

// The kinds of tokens.
const (
	tokenEnd  = iota
	tokenNone // no token begins here
	tokenOpen
	tokenClose
	tokenLevel
	tokenIndex
	tokenMeta
	tokenNumber
	tokenWord
)

const (
	digits    = "0123456789"
	letters   = "abcdefghijklmnopqrstuvwxyzABCDEFGHIJKLMNOPQRSTUVWXYZ"
	maxDigits = 6 // of a number
)

// token is a token at a byte offset. Its text is the word, the number, or what a level has between its brackets.
type token struct {
	kind int
	text string
	at   int
}

// tokens yields the tokens of a source; the last one is the end, or none.
func tokens(s string) iter.Seq[token] {
	return func(yield func(token) bool) {
		for at := 0; ; {
			rest := strings.TrimLeft(s[at:], " \t\r\n")
			at = len(s) - len(rest)
			t, length := first(rest)
			t.at = at
			if !yield(t) || t.kind == tokenEnd || t.kind == tokenNone {
				return
			}
			at += length
		}
	}
}

// first returns the token with which a text begins, and its length.
func first(s string) (token, int) {
	if s == "" {
		return token{kind: tokenEnd}, 0
	}
	switch s[0] {
	case '(':
		return token{kind: tokenOpen}, 1
	case ')':
		return token{kind: tokenClose}, 1
	case '[':
		text, _, found := strings.Cut(s[1:], "]")
		if !found {
			return token{kind: tokenNone}, 0
		}
		return token{kind: tokenLevel, text: text}, len(text) + 2
	case '#':
		return numbered(tokenIndex, s)
	case '?':
		return numbered(tokenMeta, s)
	}
	text := word(s)
	switch {
	case isNumber(text):
		return token{kind: tokenNumber, text: text}, len(text)
	case text == "" || strings.Contains(digits, text[:1]):
		return token{kind: tokenNone}, 0
	}
	return token{kind: tokenWord, text: text}, len(text)
}

// numbered returns the token of a sign and of the number behind it, and its length.
func numbered(kind int, s string) (token, int) {
	number := word(s[1:])
	if !isNumber(number) {
		return token{kind: tokenNone}, 0
	}
	return token{kind: kind, text: number}, len(number) + 1
}

// word returns the bytes of words with which a text begins, as many as possible.
func word(s string) string {
	return s[:len(s)-len(strings.TrimLeft(s, letters+digits+"_'."))]
}

func isNumber(word string) bool {
	return 0 < len(word) && len(word) <= maxDigits && strings.Trim(word, digits) == "" && (word[0] != '0' || word == "0")
}
