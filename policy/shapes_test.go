package policy_test

import (
	"reflect"
	"slices"
	"strings"
	"testing"

	"ravelin/api"
	"ravelin/lex"
	"ravelin/policy"
)

// grown holds a call against the chapter over each beginning of a text of a symbol, with at most so many tokens, and each token of an alphabet behind it: the beginnings are those of the chapter's grammar.
func grown(start string, front []string, alphabet []string, most int, hold func(text string)) int {
	c := newChart(theGrammar, start)
	tokenOf := func(s string) api.Token {
		t, _, _ := lex.Next(s, 0)
		return t
	}
	for _, s := range front {
		c.scan(tokenOf(s))
	}
	n := 0
	var grow func(text string, left int)
	grow = func(text string, left int) {
		hold(text)
		n++
		for _, s := range alphabet {
			longer := text + " " + s
			if parts := c.scan(tokenOf(s)); len(parts) == 0 {
				hold(longer)
				n++
				continue
			}
			if left > 1 {
				grow(longer, left-1)
			} else {
				hold(longer)
				n++
			}
			c.back()
		}
	}
	grow(strings.Join(front, " "), most)
	return n
}

// P6.3: all short texts of an expression's words.
func TestParseExprOfAllShortTexts(t *testing.T) {
	n := grown("EXPR", nil, []string{"true", "false", "not", "and", "or", "(", ")"}, 7, func(text string) { holdExpr(t, text) })
	n += grown("EXPR", nil, []string{"arg0", "ip", "&", "7", "==", ">=", "and", "not", "(", ")", "read", ";"}, 7, func(text string) { holdExpr(t, text) })
	if n < 10000 {
		t.Errorf("there are only %d texts", n)
	}
}

// P6.3: all short texts of a policy's words, from different places on.
func TestParseOfAllShortTexts(t *testing.T) {
	n := 0
	hold := func(text string) { holdParse(t, text); n++ }
	words := []string{"arch", "foreign", "default", "on", "x", "trap", "log", "7", ";", ",", "do", "when", "true"}
	grown("policy", nil, words, 7, hold)
	grown("policy", tokens("arch x; foreign"), words, 9, hold)
	grown("policy", tokens(head+"on a"), words, 6, hold)
	grown("policy", tokens(head+"on a when"), []string{"true", "arg1", "==", "1", "do", "and", "not", "(", ")", "log", "errno", ";", "on"}, 6, hold)
	if n < 10000 {
		t.Errorf("there are only %d texts", n)
	}
}

// P6.1 to P6.3 of policies that follow no shape, spelled in all ways: they are read as what they are.
func TestParseOfAllSpellings(t *testing.T) {
	r := random(3)
	for range 2500 {
		p := r.policy(r.below(6), r.below(4))
		holdPrint(t, p)
		text := r.spelled(slices.Concat(writtenPolicy(p, r.some(5))...))
		if got, err, at := policy.Parse(text); err != api.OK || at != 0 || !reflect.DeepEqual(got, p) {
			t.Fatalf("Parse of %q is %v, %d, %d, not %v", text, got, err, at, p)
		}
		holdParse(t, text)
	}
	for range 5000 {
		e := r.expr(r.below(5))
		holdPrintExpr(t, e)
		text := r.spelled(enclosed(e, r.some(4)))
		if got, err, at := policy.ParseExpr(text); err != api.OK || at != 0 || !reflect.DeepEqual(got, e) {
			t.Fatalf("ParseExpr of %q is %v, %d, %d, not %v", text, got, err, at, e)
		}
		holdExpr(t, text)
	}
}

// P6.1 and P6.3 of texts that are nearly right.
func TestParseOfNearlyAllShapes(t *testing.T) {
	r := random(5)
	seen := map[api.Errno]int{}
	for range 6000 {
		p := r.policy(r.below(4), r.below(3))
		seen[holdParse(t, r.spelledRough(r.mutated(slices.Concat(writtenPolicy(p, never)...))))]++
		e := r.expr(r.below(5))
		seen[holdExpr(t, r.spelledRough(r.mutated(enclosed(e, r.some(6)))))]++
		opened := nested([]string{"(n", "(", "n"}[r.below(3)], 55+r.below(12), strings.Join(enclosed(e, never), " "))
		seen[holdExpr(t, strings.Join(r.mutated(tokens(opened)), " "))]++
	}
	for _, err := range []api.Errno{api.OK, api.ErrPolicyWord, api.ErrPolicyDeep, api.ErrLexByte, api.ErrLexName, api.ErrLexNumber} {
		if seen[err] < 100 {
			t.Errorf("only %d texts are told with %d", seen[err], err)
		}
	}
}

// Bytes that are no text at all.
func TestParseOfAnyBytes(t *testing.T) {
	r := random(7)
	for range 5000 {
		b := []byte(example[:r.below(len(example)+1)])
		for range 1 + r.below(4) {
			b = slices.Insert(b, r.below(len(b)+1), byte(r.next()>>40))
		}
		holdParse(t, string(b))
		holdExpr(t, string(b[r.below(len(b)):]))
	}
	for c := range 256 {
		holdParse(t, string([]byte{byte(c)}))
		holdExpr(t, "true"+string([]byte{byte(c)}))
	}
}

// Each beginning of a text is refused just behind it, or within its last token.
func TestParseOfAllBeginnings(t *testing.T) {
	for n := range len(example) {
		err := holdParse(t, example[:n])
		text := strings.TrimSpace(example[:n])
		if is := strings.Count(text, ";") >= 3 && strings.HasSuffix(text, ";"); (err == api.OK) != is {
			t.Errorf("Parse of %q is %d", example[:n], err)
		}
	}
}
