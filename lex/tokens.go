package lex

import (
	"math"
	"strings"

	"ravelin/api"
)

// hexMark stands ahead of digits of sixteen, of which there are at most hexDigits.
const (
	hexMark   = "0x"
	hexDigits = 16
)

// tokenAt is the token that begins just there.
func tokenAt(text string, at int) (api.Token, api.Errno) {
	switch {
	case at == len(text):
		return api.Token{Kind: api.TokenEnd, At: at}, api.OK
	case beginsWord(text[at]):
		return wordToken(text[at:behindRun(text, at, isPart)], at)
	case isDigit(text[at]):
		return numberToken(text[at:behindRun(text, at, isPart)], at)
	}
	return signToken(text[at:at+signLen(text[at:])], at)
}

// wordToken is that of bytes that a word may be made of: they are no word only if they are too many.
func wordToken(s string, at int) (api.Token, api.Errno) {
	if !Word(s) {
		return api.Token{}, api.ErrLexName
	}
	return token(api.TokenWord, s, 0, at), api.OK
}

func numberToken(s string, at int) (api.Token, api.Errno) {
	n, is := Number(s)
	if !is {
		return api.Token{}, api.ErrLexNumber
	}
	return token(api.TokenNumber, s, n, at), api.OK
}

func signToken(s string, at int) (api.Token, api.Errno) {
	if s == "" {
		return api.Token{}, api.ErrLexByte
	}
	return token(api.TokenSign, s, 0, at), api.OK
}

// token copies its bytes: a piece of a text would keep all of it.
func token(kind api.TokenKind, s string, n uint64, at int) api.Token {
	return api.Token{Kind: kind, Text: strings.Clone(s), Num: n, At: at}
}

// signLen is how many bytes the sign has by which a text begins; 0 where there is none.
func signLen(text string) int {
	if len(text) > 1 && text[1] == '=' && oneOf("=!<>")(text[0]) {
		return 2
	}
	if oneOf(";,()&<>")(text[0]) {
		return 1
	}
	return 0
}

// Word: may a word be written so?
func Word(s string) bool {
	return s != "" && len(s) <= api.MaxWord && beginsWord(s[0]) && behindRun(s, 0, isPart) == len(s)
}

// Number is a number as it is written.
func Number(s string) (uint64, bool) {
	switch {
	case s == "0":
		return 0, true
	case strings.HasPrefix(s, hexMark):
		digits := s[len(hexMark):]
		if len(digits) > hexDigits {
			return 0, false
		}
		return joined(digits, 16)
	case strings.HasPrefix(s, "0"):
		return 0, false
	}
	return joined(s, 10)
}

// joined is the number of the digits of a base, if there are any, and it is not too great.
func joined(digits string, base uint64) (uint64, bool) {
	n := uint64(0)
	for i := range len(digits) {
		d := digit(digits[i])
		if d >= base || n > (math.MaxUint64-d)/base {
			return 0, false
		}
		n = n*base + d
	}
	return n, digits != ""
}

// digit is what a digit stands for; what is none stands for more than any.
func digit(c byte) uint64 {
	switch {
	case isDigit(c):
		return uint64(c - '0')
	case c >= 'a' && c <= 'f':
		return uint64(c-'a') + 10
	}
	return math.MaxUint64
}
