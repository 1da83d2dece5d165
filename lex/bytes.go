package lex

import "strings"

// behindRun is the place behind the bytes from at on of which is holds, one behind the other.
func behindRun(text string, at int, is func(byte) bool) int {
	for at < len(text) && is(text[at]) {
		at++
	}
	return at
}

// behindGap is the place behind the blanks and remarks from at on.
func behindGap(text string, at int) int {
	isBlank, isRemark := oneOf("\t\n\r "), noneOf("\n")
	for {
		at = behindRun(text, at, isBlank)
		if at == len(text) || text[at] != '#' {
			return at
		}
		at = behindRun(text, at, isRemark)
	}
}

func oneOf(set string) func(byte) bool {
	return func(c byte) bool { return strings.IndexByte(set, c) >= 0 }
}

func noneOf(set string) func(byte) bool {
	return func(c byte) bool { return strings.IndexByte(set, c) < 0 }
}

// beginsWord: may a word begin so?
func beginsWord(c byte) bool {
	return c >= 'a' && c <= 'z' || c >= 'A' && c <= 'Z' || c == '_'
}

func isDigit(c byte) bool { return c >= '0' && c <= '9' }

// isPart: is it one of the bytes that words and numbers go on with?
func isPart(c byte) bool { return beginsWord(c) || isDigit(c) }
