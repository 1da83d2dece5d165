package lex_test

import (
	"math/big"
	"regexp"
	"strings"
	"testing"

	"ravelin/api"
	"ravelin/lex"
)

// The chapter's table once more, as patterns.
var (
	gapForm    = regexp.MustCompile(`^(?:[\x09\x0a\x0d\x20]|#[^\x0a]*)*`)
	wordForm   = regexp.MustCompile(`^[a-zA-Z_][a-zA-Z0-9_]*`)
	runForm    = regexp.MustCompile(`^[0-9][a-zA-Z0-9_]*`)
	numberForm = regexp.MustCompile(`^(?:0|[1-9][0-9]*|0x[0-9a-f]{1,16})$`)
	signForm   = regexp.MustCompile(`^(?:==|!=|<=|>=|[;,()&<>])`)
)

// numberByHand is what Number is to say.
func numberByHand(s string) (uint64, bool) {
	if !numberForm.MatchString(s) {
		return 0, false
	}
	n, _ := new(big.Int).SetString(s, 0)
	if !n.IsUint64() {
		return 0, false
	}
	return n.Uint64(), true
}

// wordByHand is what Word is to say.
func wordByHand(s string) bool {
	return s != "" && wordForm.FindString(s) == s && len(s) < 33
}

// nextByHand is what Next is to say, written down from the chapter's words by their numbers.
func nextByHand(text string, at int) (api.Token, int, api.Errno) {
	if len(text) > 65536 {
		return api.Token{}, 0, 54
	}
	if at < 0 || at > len(text) {
		return api.Token{}, 0, 1
	}
	at += len(gapForm.FindString(text[at:]))
	rest := text[at:]
	if rest == "" {
		return api.Token{Kind: 1, At: at}, at, 0
	}
	if s := wordForm.FindString(rest); s != "" {
		if len(s) > 32 {
			return api.Token{}, at, 52
		}
		return api.Token{Kind: 2, Text: s, At: at}, at + len(s), 0
	}
	if s := runForm.FindString(rest); s != "" {
		n, is := numberByHand(s)
		if !is {
			return api.Token{}, at, 53
		}
		return api.Token{Kind: 3, Text: s, Num: n, At: at}, at + len(s), 0
	}
	if s := signForm.FindString(rest); s != "" {
		return api.Token{Kind: 4, Text: s, At: at}, at + len(s), 0
	}
	return api.Token{}, at, 51
}

// listByHand is what List is to say.
func listByHand(text string) ([]api.Token, api.Errno, int) {
	var l []api.Token
	for at := 0; ; {
		t, next, err := nextByHand(text, at)
		if err != 0 {
			return nil, err, next
		}
		l = append(l, t)
		if t.Kind == 1 {
			return l, 0, 0
		}
		at = next
	}
}

// short is a text as it is told where a test fails.
func short(text string) string { return text[:min(len(text), 200)] }

// holdNext holds Next against the chapter.
func holdNext(t *testing.T, text string, at int) {
	t.Helper()
	x, next, err := lex.Next(text, at)
	if want, wantNext, wantErr := nextByHand(text, at); x != want || next != wantNext || err != wantErr {
		t.Fatalf("Next of %q at %d is %v, %d, %d, not %v, %d, %d", short(text), at, x, next, err, want, wantNext, wantErr)
	}
}

// random are numbers that follow no shape, the same ones at each run.
type random uint64

func (r *random) next() uint64 {
	*r = *r*6364136223846793005 + 1442695040888963407
	return uint64(*r ^ *r>>29)
}

// below is a number from 0 to n - 1.
func (r *random) below(n int) int { return int(r.next() >> 33 % uint64(n)) }

// goods are pieces that tokens and gaps are made of.
func goods() []string {
	return []string{
		"a", "arg0", "_", "_9", "Zz", "x", "when", "f", "e10", strings.Repeat("w", 16),
		"0", "7", "10", "42", "0x1f", "0xdeadbeef", "0xffffffffffffffff", "0x0000000000000000", "18446744073709551615",
		";", ",", "(", ")", "&", "==", "!=", "<", ">", "<=", ">=",
		" ", " ", " ", "\t", "\n", "\r", "\r\n", "  ", "#\n", "# a $ = \" 00\n", "##\x80\x00\r #\n",
	}
}

// bads are pieces that seldom stand in a text well.
func bads() []string {
	return []string{"=", "!", "$", "-", "+", ".", "|", "\x00", "\v", "\f", "\x7f", "\x80", "\xff", "é", "00", "01", "0x", "0X1", "0xG", "0xA", "1_0", "12a", "18446744073709551616", "0x10000000000000000", strings.Repeat("w", 33), "#"}
}

// text puts n pieces together, one in some of which is a bad one (none, if some is 0).
func (r *random) text(n, some int) string {
	var b strings.Builder
	for range n {
		l := goods()
		if some > 0 && r.below(some) == 0 {
			l = bads()
		}
		b.WriteString(l[r.below(len(l))])
	}
	return b.String()
}
