package lex_test

import (
	"math"
	"strings"
	"testing"

	"ravelin/api"
	"ravelin/lex"
)

func TestNextExamples(t *testing.T) {
	const end, word, number, sign = api.TokenEnd, api.TokenWord, api.TokenNumber, api.TokenSign
	const text = "arg0 & 0x1f>=2;# x"
	for _, c := range []struct {
		text string
		at   int
		want api.Token
		next int
		err  api.Errno
	}{
		{text, 0, api.Token{Kind: word, Text: "arg0", At: 0}, 4, api.OK},
		{text, 4, api.Token{Kind: sign, Text: "&", At: 5}, 6, api.OK},
		{text, 6, api.Token{Kind: number, Text: "0x1f", Num: 31, At: 7}, 11, api.OK},
		{text, 11, api.Token{Kind: sign, Text: ">=", At: 11}, 13, api.OK},
		{text, 13, api.Token{Kind: number, Text: "2", Num: 2, At: 13}, 14, api.OK},
		{text, 14, api.Token{Kind: sign, Text: ";", At: 14}, 15, api.OK},
		{text, 15, api.Token{Kind: end, At: 18}, 18, api.OK},
		{text, 18, api.Token{Kind: end, At: 18}, 18, api.OK},
		{text, 19, api.Token{}, 0, api.ErrArg},
		{text, -1, api.Token{}, 0, api.ErrArg},
		// A place in the midst of something is no other than any place.
		{text, 2, api.Token{Kind: word, Text: "g0", At: 2}, 4, api.OK},
		{text, 3, api.Token{Kind: number, Text: "0", At: 3}, 4, api.OK},
		{text, 8, api.Token{Kind: word, Text: "x1f", At: 8}, 11, api.OK},
		{text, 12, api.Token{}, 12, api.ErrLexByte},
		{text, 16, api.Token{Kind: word, Text: "x", At: 17}, 18, api.OK},
		{"", 0, api.Token{Kind: end}, 0, api.OK},
		{"", 1, api.Token{}, 0, api.ErrArg},
		{"#", 0, api.Token{Kind: end, At: 1}, 1, api.OK},
		{"#\n", 0, api.Token{Kind: end, At: 2}, 2, api.OK},
		{"#\r;", 0, api.Token{Kind: end, At: 3}, 3, api.OK},
		{"#\n;", 0, api.Token{Kind: sign, Text: ";", At: 2}, 3, api.OK},
		{"#\n#\n \t\r#$\n=", 0, api.Token{}, 10, api.ErrLexByte},
		{"a#b", 0, api.Token{Kind: word, Text: "a"}, 1, api.OK},
		{"1#b", 0, api.Token{Kind: number, Text: "1", Num: 1}, 1, api.OK},
		{"==", 0, api.Token{Kind: sign, Text: "=="}, 2, api.OK},
		{"===", 0, api.Token{Kind: sign, Text: "=="}, 2, api.OK},
		{"===", 1, api.Token{Kind: sign, Text: "==", At: 1}, 3, api.OK},
		{"===", 2, api.Token{}, 2, api.ErrLexByte},
		{"!==", 0, api.Token{Kind: sign, Text: "!="}, 2, api.OK},
		{"! =", 0, api.Token{}, 0, api.ErrLexByte},
		{"=!", 0, api.Token{}, 0, api.ErrLexByte},
		{"=>", 0, api.Token{}, 0, api.ErrLexByte},
		{"!", 0, api.Token{}, 0, api.ErrLexByte},
		{"<>", 0, api.Token{Kind: sign, Text: "<"}, 1, api.OK},
		{"<<=", 0, api.Token{Kind: sign, Text: "<"}, 1, api.OK},
		{"<= ", 0, api.Token{Kind: sign, Text: "<="}, 2, api.OK},
		{"> =", 0, api.Token{Kind: sign, Text: ">"}, 1, api.OK},
		{">==", 0, api.Token{Kind: sign, Text: ">="}, 2, api.OK},
		{"&&", 0, api.Token{Kind: sign, Text: "&"}, 1, api.OK},
		{"(=", 0, api.Token{Kind: sign, Text: "("}, 1, api.OK},
		{";=", 0, api.Token{Kind: sign, Text: ";"}, 1, api.OK},
		{" 00", 0, api.Token{}, 1, api.ErrLexNumber},
		{" 00", 2, api.Token{Kind: number, Text: "0", At: 2}, 3, api.OK},
		{"0x", 0, api.Token{}, 0, api.ErrLexNumber},
		{"0xG", 0, api.Token{}, 0, api.ErrLexNumber},
		{"0x_", 0, api.Token{}, 0, api.ErrLexNumber},
		{"0x$", 0, api.Token{}, 0, api.ErrLexNumber},
		{"12a", 0, api.Token{}, 0, api.ErrLexNumber},
		{"12_", 0, api.Token{}, 0, api.ErrLexNumber},
		{"12$", 0, api.Token{Kind: number, Text: "12", Num: 12}, 2, api.OK},
		{"12$", 2, api.Token{}, 2, api.ErrLexByte},
		{"0x10000000000000000", 0, api.Token{}, 0, api.ErrLexNumber},
		{"0xffffffffffffffff", 0, api.Token{Kind: number, Text: "0xffffffffffffffff", Num: math.MaxUint64}, 18, api.OK},
		{"a$", 1, api.Token{}, 1, api.ErrLexByte},
		{"a\x00", 1, api.Token{}, 1, api.ErrLexByte},
		{"aé", 0, api.Token{Kind: word, Text: "a"}, 1, api.OK},
		{" é", 0, api.Token{}, 1, api.ErrLexByte},
		{"\v;", 0, api.Token{}, 0, api.ErrLexByte},
		{"\u00a0;", 0, api.Token{}, 0, api.ErrLexByte},
	} {
		if x, next, err := lex.Next(c.text, c.at); x != c.want || next != c.next || err != c.err {
			t.Errorf("Next of %q at %d is %v, %d, %d, not %v, %d, %d", c.text, c.at, x, next, err, c.want, c.next, c.err)
		}
	}
}

// Each byte, and each two of them, at the beginning of a text and within it.
func TestNextOfAllBytes(t *testing.T) {
	for a := range 256 {
		holdNext(t, string([]byte{byte(a)}), 0)
		for b := range 256 {
			two := string([]byte{byte(a), byte(b)})
			holdNext(t, two, 0)
			holdNext(t, two, 1)
			holdNext(t, "#"+two+"\n"+two+"=", 0)
			holdNext(t, "x"+two+"f", 1)
		}
	}
}

// All short texts of bytes that mean something to one another.
func TestNextOfShortTexts(t *testing.T) {
	const set = "a_x01f=!<>&;#\n $"
	for n := range 5 {
		size := 1
		for range n {
			size *= len(set)
		}
		for i := range size {
			b := make([]byte, n)
			for at := range b {
				b[at] = set[i%len(set)]
				i /= len(set)
			}
			for at := -1; at <= n+1; at++ {
				holdNext(t, string(b), at)
			}
		}
	}
}

func TestNextEverywhere(t *testing.T) {
	r := random(5)
	far := []int{math.MinInt, math.MinInt + 1, math.MinInt32, -1 << 32, -256, 1 << 31, 1 << 32, math.MaxInt - 1, math.MaxInt}
	for range 3000 {
		text := r.text(r.below(25), 6)
		for at := -3; at <= len(text)+3; at++ {
			holdNext(t, text, at)
		}
		for _, at := range far {
			holdNext(t, text, at)
		}
	}
}

// Words and numbers of all lengths around those that may be.
func TestNextOfLongTokens(t *testing.T) {
	for n := 1; n < 70; n++ {
		for _, c := range []string{"w", "_", "Z", "1", "0", "9", "x", "f"} {
			for _, first := range []string{"", "a", "0", "0x", "1", "18446744073709551"} {
				for _, then := range []string{"", " ", "$", ";", "=", "#", "\xff"} {
					text := first + strings.Repeat(c, n) + then
					holdNext(t, text, 0)
					holdNext(t, " "+text, 0)
					holdNext(t, text, len(text)-len(then))
				}
			}
		}
	}
	long := strings.Repeat("w", 65536)
	for _, at := range []int{0, 1, 65503, 65504, 65505, 65535, 65536, 65537, -1} {
		holdNext(t, long, at)
		holdNext(t, strings.Repeat("0", 65536), at)
		holdNext(t, strings.Repeat("1", 65536), at)
	}
}

// The text's length is looked at ahead of the place, and ahead of what stands in the text.
func TestNextOfLongTexts(t *testing.T) {
	for _, piece := range []string{" ", ";", "#", "\n", "$", "a", "0", "# x\n", "<= "} {
		text := strings.Repeat(piece, 65538)
		for _, n := range []int{65535, 65536, 65537, 65538, len(text)} {
			for _, at := range []int{math.MinInt, -1, 0, 1, 65535, 65536, 65537, 65538, 65539, math.MaxInt} {
				holdNext(t, text[:n], at)
			}
		}
	}
	if x, next, err := lex.Next(strings.Repeat(";", 65537), -1); x != (api.Token{}) || next != 0 || err != api.ErrLexLong {
		t.Errorf("Next of a text that is too long, at -1, is %v, %d, %d", x, next, err)
	}
	if x, next, err := lex.Next(strings.Repeat(";", 65536), 65535); x != (api.Token{Kind: api.TokenSign, Text: ";", At: 65535}) || next != 65536 || err != api.OK {
		t.Errorf("Next at the last byte of a text that is not too long is %v, %d, %d", x, next, err)
	}
}

// Nothing is kept: an answer hangs on what the call is given now, not on what it was given ahead of it.
func TestNothingIsKept(t *testing.T) {
	for range 3 {
		lex.Next("0x", 0)
		lex.Next("ab <= 7", 3)
		lex.List("a $")
		lex.Number("12")
		holdNext(t, "", 0)
		holdNext(t, "b", 0)
		if n, is := lex.Number("0"); n != 0 || !is {
			t.Errorf("Number of 0 behind others is %d, %t", n, is)
		}
	}
}
