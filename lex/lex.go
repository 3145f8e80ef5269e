// Package lex is layer 1: see shared/doc/01-lex.md.
package lex

import (
	"strings"

	"lychgate/api"
)

// Kind is what a token is.
type Kind int

// The kinds.
const (
	End Kind = iota
	Word
	Key
	Number
	Sign
)

// Token is a piece of a text.
type Token struct {
	Kind Kind
	Text string
	Num  int64
	At   int
}

var keys = [...]string{
	"type", "fn", "own", "cell", "counted", "lock", "guard", "where", "int", "mut",
	"free", "unlock", "if", "else", "while", "return", "abort", "fork", "new", "array",
}

var blanks = [...]byte{' ', '\n'}

// pairs are the signs of two bytes: they are tried ahead of those of one byte, so that the longer sign stands.
var pairs = [...]string{"->", "<=", "=="}

const singles = "{}()[],:;=+-&<"

// Tokens: the text's tokens, the End last; else the place of the fault.
func Tokens(text string) ([]Token, int, api.Errno) {
	if len(text) > api.MaxText {
		return nil, 0, api.ErrLong
	}
	var out []Token
	at := 0
scan:
	for at < len(text) {
		for _, blank := range blanks {
			if text[at] == blank {
				at++
				continue scan
			}
		}
		if text[at] == '#' {
			// The line's end is left over: it is a blank.
			at = runEnd(text, at, func(b byte) bool { return b != '\n' })
			continue scan
		}
		t, e := tokenAt(text, at)
		if e != api.OK {
			return nil, at, e
		}
		out = append(out, t)
		at += len(t.Text)
	}
	return append(out, Token{Kind: End, At: len(text)}), 0, api.OK
}

// IsName: is it a name?
func IsName(s string) bool {
	return s != "" && len(s) <= api.MaxName && beginsWord(s[0]) && runEnd(s, 0, isWordByte) == len(s) && !IsKey(s)
}

// IsKey: is it a key word?
func IsKey(s string) bool {
	for _, key := range keys {
		if s == key {
			return true
		}
	}
	return false
}

func tokenAt(text string, at int) (Token, api.Errno) {
	switch {
	case beginsWord(text[at]):
		return wordAt(text, at)
	case isDigit(text[at]):
		return numberAt(text, at)
	default:
		return signAt(text, at)
	}
}

func wordAt(text string, at int) (Token, api.Errno) {
	word := text[at:runEnd(text, at, isWordByte)]
	switch {
	case len(word) > api.MaxName:
		return Token{}, api.ErrWord
	case IsKey(word):
		return Token{Kind: Key, Text: word, At: at}, api.OK
	default:
		return Token{Kind: Word, Text: word, At: at}, api.OK
	}
}

func numberAt(text string, at int) (Token, api.Errno) {
	end := runEnd(text, at, isDigit)
	if text[at] == '0' && end > at+1 || end < len(text) && beginsWord(text[end]) {
		return Token{}, api.ErrNumber
	}
	var n int64
	for i := at; i < end; i++ {
		n = n*10 + int64(text[i]-'0')
		// Asked at each digit, so that a long run of them can't wrap round.
		if n > api.MaxNum {
			return Token{}, api.ErrNumber
		}
	}
	return Token{Kind: Number, Text: text[at:end], Num: n, At: at}, api.OK
}

func signAt(text string, at int) (Token, api.Errno) {
	for _, pair := range pairs {
		if strings.HasPrefix(text[at:], pair) {
			return Token{Kind: Sign, Text: pair, At: at}, api.OK
		}
	}
	if strings.IndexByte(singles, text[at]) < 0 {
		return Token{}, api.ErrByte
	}
	return Token{Kind: Sign, Text: text[at : at+1], At: at}, api.OK
}

// runEnd: the place behind the run of bytes of one make that begins at a place.
func runEnd(text string, at int, isMade func(byte) bool) int {
	for at < len(text) && isMade(text[at]) {
		at++
	}
	return at
}

func beginsWord(b byte) bool { return 'a' <= b && b <= 'z' || b == '_' }

func isDigit(b byte) bool { return '0' <= b && b <= '9' }

func isWordByte(b byte) bool { return beginsWord(b) || isDigit(b) }
