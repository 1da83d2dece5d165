package policy_test

import (
	"fmt"
	"reflect"
	"regexp"
	"strings"
	"testing"

	"ravelin/api"
	"ravelin/policy"
)

// The chapter's policy.
const example = `arch x86_64;
foreign kill_process;
default errno 1;
on read, write, 231 do allow;
on openat when arg2 & 0x3 == 0 and not (arg1 > 5 or ip < 4096) do log;
`

const head = "arch x; foreign log; default log; "

// whole is the mask of all bits.
const whole = 1<<64 - 1

func test(field int, mask uint64, rel api.Rel, value uint64) api.Expr {
	return api.Expr{Op: 6, Field: field, Mask: mask, Rel: rel, Value: value}
}

func with(op api.ExprOp, l ...api.Expr) api.Expr { return api.Expr{Op: op, Args: l} }

func TestParseExample(t *testing.T) {
	want := api.Policy{Arch: "x86_64", Foreign: api.Verdict{Kind: 1}, Default: api.Verdict{Kind: 4, Data: 1}, Rules: []api.Rule{
		{Calls: []api.Call{{Name: "read"}, {Name: "write"}, {Nr: 231}}, When: api.Expr{Op: 1}, Do: api.Verdict{Kind: 8}},
		{Calls: []api.Call{{Name: "openat"}}, Do: api.Verdict{Kind: 7}, When: with(4, test(2, 3, 1, 0), with(3, with(5, test(1, whole, 5, 5), test(6, whole, 3, 4096))))},
	}}
	p, err, at := policy.Parse(example)
	if !reflect.DeepEqual(p, want) || err != 0 || at != 0 {
		t.Errorf("it is %v, %d, %d, not %v", p, err, at, want)
	}
	if s := policy.Print(p); s != example {
		t.Errorf("it is written %q", s)
	}
	holdParse(t, example)
}

func TestParseExprExamples(t *testing.T) {
	one := test(0, whole, 1, 1)
	yes, no := api.Expr{Op: 1}, api.Expr{Op: 2}
	for _, c := range []struct {
		text string
		want api.Expr
	}{
		{"true", yes},
		{"false", no},
		{"((true))", yes},
		{"arg0 == 1", one},
		{"arg0 == 1 or true and false", with(5, one, with(4, yes, no))},
		{"true and false or arg0 == 1", with(5, with(4, yes, no), one)},
		{"((not ((ip > 1))))", with(3, test(6, whole, 5, 1))},
		{"true or false or true", with(5, yes, no, yes)},
		{"(true or false) or true", with(5, with(5, yes, no), yes)},
		{"true or (false or true)", with(5, yes, with(5, no, yes))},
		{"true and false and true", with(4, yes, no, yes)},
		{"(true and false) and true", with(4, with(4, yes, no), yes)},
		{"true and (false and true)", with(4, yes, with(4, no, yes))},
		{"true and (false or true)", with(4, yes, with(5, no, yes))},
		{"(true or false) and (true)", with(4, with(5, yes, no), yes)},
		{"not true and false", with(4, with(3, yes), no)},
		{"not true or false", with(5, with(3, yes), no)},
		{"not (true and false)", with(3, with(4, yes, no))},
		{"not not not true", with(3, with(3, with(3, yes)))},
		{"arg1&0xff!=0x10", test(1, 255, 2, 16)},
		{"arg2 & 0 < 18446744073709551615", test(2, 0, 3, whole)},
		{"arg3 <= 3", test(3, whole, 4, 3)},
		{"arg4 & 18446744073709551615 > 0", test(4, whole, 5, 0)},
		{"arg5 >= 0x8000000000000000 # x", test(5, whole, 6, 1<<63)},
	} {
		if e, err, at := policy.ParseExpr(c.text); !reflect.DeepEqual(e, c.want) || err != 0 || at != 0 {
			t.Errorf("ParseExpr of %q is %v, %d, %d, not %v", c.text, e, err, at, c.want)
		}
		holdExpr(t, c.text)
	}
}

// wrong is a text, and what is told of it.
type wrong struct {
	text string
	err  api.Errno
	at   int
}

func TestParseOfWrongTexts(t *testing.T) {
	for _, c := range []wrong{
		{"", api.ErrPolicyWord, 0},
		{" \n# x\n ", api.ErrPolicyWord, 7},
		{"Arch x;", api.ErrPolicyWord, 0},
		{"arch", api.ErrPolicyWord, 4},
		{"arch x;", api.ErrPolicyWord, 7},
		{"arch 1;", api.ErrPolicyWord, 5},
		{"arch ;", api.ErrPolicyWord, 5},
		{"arch x foreign log;", api.ErrPolicyWord, 7},
		{"arch x; default log;", api.ErrPolicyWord, 8},
		{"arch x; foreign bogus;", api.ErrPolicyWord, 16},
		{"arch x; foreign KILL_PROCESS;", api.ErrPolicyWord, 16},
		{"arch x; foreign fault 1;", api.ErrPolicyWord, 16},
		{"arch x; foreign trap;", api.ErrPolicyWord, 20},
		{"arch x; foreign errno x;", api.ErrPolicyWord, 22},
		{"arch x; foreign trace, 1;", api.ErrPolicyWord, 21},
		{"arch x; foreign log; on a do log;", api.ErrPolicyWord, 21},
		{"arch x; foreign log; default log 1;", api.ErrPolicyWord, 33},
		{"arch x; foreign log; default log", api.ErrPolicyWord, 32},
		{head + ";", api.ErrPolicyWord, 34},
		{head + "off", api.ErrPolicyWord, 34},
		{head + "arch x;", api.ErrPolicyWord, 34},
		{head + "on", api.ErrPolicyWord, 36},
		{head + "on ;", api.ErrPolicyWord, 37},
		{head + "on (a) do log;", api.ErrPolicyWord, 37},
		{head + "on do log;", api.ErrPolicyWord, 40},
		{head + "on a, do log;", api.ErrPolicyWord, 43},
		{head + "on a b do log;", api.ErrPolicyWord, 39},
		{head + "on a,, b do log;", api.ErrPolicyWord, 39},
		{head + "on , a do log;", api.ErrPolicyWord, 37},
		{head + "on a;", api.ErrPolicyWord, 38},
		{head + "on a when do log;", api.ErrPolicyWord, 44},
		{head + "on a when true;", api.ErrPolicyWord, 48},
		{head + "on a when true when true do log;", api.ErrPolicyWord, 49},
		{head + "on a when true, true do log;", api.ErrPolicyWord, 48},
		{head + "on a when arg0 do log;", api.ErrPolicyWord, 49},
		{head + "on a when arg0 == do log;", api.ErrPolicyWord, 52},
		{head + "on a when (true do log;", api.ErrPolicyWord, 50},
		{head + "on a when true) do log;", api.ErrPolicyWord, 48},
		{head + "on a do log", api.ErrPolicyWord, 45},
		{head + "on a do log when true;", api.ErrPolicyWord, 46},
		{head + "on a do errno;", api.ErrPolicyWord, 47},
		{head + "on a do errno 1 2;", api.ErrPolicyWord, 50},
		{head + "on a do log; $", api.ErrLexByte, 47},
		{head + "on a do log; 00", api.ErrLexNumber, 47},
		{head + "on " + strings.Repeat("w", 33) + " do log;", api.ErrLexName, 37},
		{"arch x; foreign trap 18446744073709551616;", api.ErrLexNumber, 21},
		{"arch x$;", api.ErrLexByte, 6},
		{"$", api.ErrLexByte, 0},
		{"arch x; bogus $", api.ErrPolicyWord, 8},
		{"arch x; foreign trap $", api.ErrLexByte, 21},
		{"arch x; foreign log $", api.ErrLexByte, 20},
		{"bogus" + strings.Repeat(" ", 65532), api.ErrLexLong, 0},
		{example + strings.Repeat(" ", 65537-len(example)), api.ErrLexLong, 0},
		{"bogus" + strings.Repeat(" ", 65531), api.ErrPolicyWord, 0},
	} {
		if p, err, at := policy.Parse(c.text); err != c.err || at != c.at || !reflect.DeepEqual(p, api.Policy{}) {
			t.Errorf("Parse of %q is %v, %d, %d, not %d, %d", short(c.text), p, err, at, c.err, c.at)
		}
		holdParse(t, c.text)
	}
}

func TestParseExprOfWrongTexts(t *testing.T) {
	for _, c := range []wrong{
		{"", api.ErrPolicyWord, 0},
		{"\n", api.ErrPolicyWord, 1},
		{"arg6 == 1", api.ErrPolicyWord, 0},
		{"arg == 1", api.ErrPolicyWord, 0},
		{"IP == 1", api.ErrPolicyWord, 0},
		{"arg0 = 1", api.ErrLexByte, 5},
		{"arg0 == arg1", api.ErrPolicyWord, 8},
		{"arg0 & == 1", api.ErrPolicyWord, 7},
		{"arg0 & arg1 == 1", api.ErrPolicyWord, 7},
		{"arg0 & 1 & 1 == 1", api.ErrPolicyWord, 9},
		{"arg0 & 1", api.ErrPolicyWord, 8},
		{"arg0 ; 1", api.ErrPolicyWord, 5},
		{"arg0 < = 1", api.ErrLexByte, 7},
		{"arg0 <", api.ErrPolicyWord, 6},
		{"1 == arg0", api.ErrPolicyWord, 0},
		{"0", api.ErrPolicyWord, 0},
		{"true true", api.ErrPolicyWord, 5},
		{"true not false", api.ErrPolicyWord, 5},
		{"true (false)", api.ErrPolicyWord, 5},
		{"true;", api.ErrPolicyWord, 4},
		{"True", api.ErrPolicyWord, 0},
		{"(true", api.ErrPolicyWord, 5},
		{"(true;)", api.ErrPolicyWord, 5},
		{"true)", api.ErrPolicyWord, 4},
		{"()", api.ErrPolicyWord, 1},
		{"not", api.ErrPolicyWord, 3},
		{"not and true", api.ErrPolicyWord, 4},
		{"true and", api.ErrPolicyWord, 8},
		{"true or or true", api.ErrPolicyWord, 8},
		{"and true", api.ErrPolicyWord, 0},
		{"when true", api.ErrPolicyWord, 0},
		{"true true $", api.ErrPolicyWord, 5},
		{"true $ true", api.ErrLexByte, 5},
		{"(true) 00", api.ErrLexNumber, 7},
		{"not " + strings.Repeat("w", 33), api.ErrLexName, 4},
		{strings.Repeat("(", 65), api.ErrPolicyDeep, 64},
		{strings.Repeat("(", 64) + "$", api.ErrLexByte, 64},
		{strings.Repeat("(", 64) + ")(", api.ErrPolicyWord, 64},
		{strings.Repeat("(", 64) + "true (", api.ErrPolicyWord, 69},
		{strings.Repeat("not ", 65), api.ErrPolicyDeep, 256},
		{strings.Repeat("not ", 64), api.ErrPolicyWord, 256},
		{strings.Repeat("not ", 64) + "(true)", api.ErrPolicyDeep, 256},
		{strings.Repeat("(", 64) + "not $", api.ErrPolicyDeep, 64},
		{strings.Repeat("(", 70000), api.ErrLexLong, 0},
	} {
		if e, err, at := policy.ParseExpr(c.text); err != c.err || at != c.at || !reflect.DeepEqual(e, api.Expr{}) {
			t.Errorf("ParseExpr of %q is %v, %d, %d, not %d, %d", short(c.text), e, err, at, c.err, c.at)
		}
		holdExpr(t, c.text)
	}
}

// No word is kept for the grammar.
func TestParseOfAllNames(t *testing.T) {
	l := []string{"_", "A", "arch0", "arg6", strings.Repeat("w", 32)}
	for _, c := range regexp.MustCompile(`"([a-z_0-5]+)"`).FindAllStringSubmatch(chapterGrammar, -1) {
		l = append(l, c[1])
	}
	if len(l) != 5+26 {
		t.Fatalf("the words are %q", l)
	}
	for _, word := range l {
		text := "arch " + word + "; foreign log; default log; on " + word + " do log; on " + word + ", x, " + word + " when true do log;"
		p, err, _ := policy.Parse(text)
		if err != api.OK || p.Arch != word || len(p.Rules) != 2 || p.Rules[0].Calls[0].Name != word || p.Rules[1].Calls[2].Name != word {
			t.Errorf("Parse of %q is %v, %d", text, p, err)
		}
		holdParse(t, text)
	}
}

func TestParseOfAllVerdicts(t *testing.T) {
	for _, c := range []struct {
		text string
		want api.Verdict
	}{
		{"kill_process", api.Verdict{Kind: api.KillProcess}},
		{"kill_thread", api.Verdict{Kind: api.KillThread}},
		{"trap 0", api.Verdict{Kind: api.Trap}},
		{"trap 65536", api.Verdict{Kind: api.Trap, Data: 65536}},
		{"errno 13", api.Verdict{Kind: api.Fault, Data: 13}},
		{"errno 0xffffffffffffffff", api.Verdict{Kind: api.Fault, Data: whole}},
		{"notify", api.Verdict{Kind: api.Notify}},
		{"trace 0x7", api.Verdict{Kind: api.Trace, Data: 7}},
		{"log", api.Verdict{Kind: api.Log}},
		{"allow", api.Verdict{Kind: api.Allow}},
	} {
		for i, text := range []string{
			"arch x; foreign " + c.text + "; default log;",
			"arch x; foreign log; default " + c.text + ";",
			head + "on 7 do " + c.text + ";",
		} {
			p, err, _ := policy.Parse(text)
			got := []api.Verdict{p.Foreign, p.Default, {}}
			if len(p.Rules) == 1 {
				got[2] = p.Rules[0].Do
			}
			if err != 0 || got[i] != c.want {
				t.Errorf("Parse of %q is %v, %d", text, p, err)
			}
			holdParse(t, text)
		}
	}
}

// Each field with each relation, with a mask and without, with numbers of all sizes.
func TestParseExprOfAllTests(t *testing.T) {
	for field, word := range []string{"arg0", "arg1", "arg2", "arg3", "arg4", "arg5", "ip"} {
		for rel, sign := range []string{"==", "!=", "<", "<=", ">", ">="} {
			for _, n := range []uint64{0, 1, 9, 10, 0xabc, 1<<32 - 1, 1 << 32, 1 << 63, whole - 1, whole} {
				text := fmt.Sprint(word, sign, n)
				if e, err, _ := policy.ParseExpr(text); err != 0 || !reflect.DeepEqual(e, test(field, whole, api.Rel(rel+1), n)) {
					t.Errorf("ParseExpr of %q is %v, %d", text, e, err)
				}
				holdExpr(t, text)
				text = fmt.Sprintf("%s&%#x%s%d", word, n, sign, n^5)
				if e, err, _ := policy.ParseExpr(text); err != 0 || !reflect.DeepEqual(e, test(field, n, api.Rel(rel+1), n^5)) {
					t.Errorf("ParseExpr of %q is %v, %d", text, e, err)
				}
				holdExpr(t, text)
			}
		}
	}
}

// nested is a text within n of `(` and `not`, by turns as a shape says.
func nested(shape string, n int, text string) string {
	var front, back strings.Builder
	for i := range n {
		if shape[i%len(shape)] == '(' {
			front.WriteString("(")
			back.WriteString(")")
		} else {
			front.WriteString("not ")
		}
	}
	return front.String() + text + back.String()
}

func TestParseDepths(t *testing.T) {
	for _, shape := range []string{"(", "n", "(n", "n(", "((n", "nn(", "(((nnnn"} {
		place := len(nested(strings.ReplaceAll(shape, "(", "n"), 64, ""))
		for i := range 64 {
			if shape[i%len(shape)] == '(' {
				place -= len("not ") - len("(")
			}
		}
		for n := 60; n < 69; n++ {
			for _, c := range []struct {
				text   string
				within int
				at     int
			}{
				{nested(shape, n, "true"), n, place},
				{nested(shape, n, "arg0 == 1 and ip > 1 or false"), n, place},
				{nested(shape, n, "(true)"), n + 1, place},
				{nested(shape, n, "not true"), n + 1, place},
				{nested(shape, n, "true") + " and true", n, place},
				{"true or " + nested(shape, n, "true"), n, place + len("true or ")},
				{nested(shape, 64, "true") + " or " + nested(shape, n, "true"), n, place + len(nested(shape, 64, "true or "))},
			} {
				want, wantAt := api.OK, 0
				if c.within > 64 {
					want, wantAt = api.ErrPolicyDeep, c.at
				}
				if _, err, at := policy.ParseExpr(c.text); err != want || at != wantAt {
					t.Errorf("ParseExpr of %q is %d, %d, not %d, %d", c.text, err, at, want, wantAt)
				}
				holdExpr(t, c.text)
				front := head + "on a when "
				if wantAt > 0 {
					wantAt += len(front)
				}
				if _, err, at := policy.Parse(front + c.text + " do log;"); err != want || at != wantAt {
					t.Errorf("Parse of a rule with %q is %d, %d, not %d, %d", c.text, err, at, want, wantAt)
				}
			}
		}
	}
}

// What is closed does not count any more: neither in an expression, nor in the next rule.
func TestParseOfManyNests(t *testing.T) {
	for _, text := range []string{
		strings.Repeat("(true) and ", 200) + "true",
		strings.Repeat("not true or ", 200) + "not not false",
		strings.Repeat("not (not arg0 == 1) and ", 100) + "ip > 1",
		strings.Repeat("(", 32) + strings.Repeat("not true and ", 40) + "true" + strings.Repeat(") or (not false)", 32),
	} {
		if err := holdExpr(t, text); err != api.OK {
			t.Errorf("ParseExpr of %q is %d", short(text), err)
		}
	}
	full := nested("(n", 64, "true")
	if err := holdParse(t, head+strings.Repeat("on a when "+full+" do log;", 5)); err != api.OK {
		t.Errorf("Parse of five rules with the depth 64 is %d", err)
	}
}

func TestParseOfManyRules(t *testing.T) {
	const rule = "on a do log;"
	full := head + strings.Repeat(rule, 512)
	for _, c := range []wrong{
		{head + strings.Repeat(rule, 511), api.OK, 0},
		{full, api.OK, 0},
		{full + " # on", api.OK, 0},
		{full + "on a do log;", api.ErrPolicyMany, len(full)},
		{full + " on", api.ErrPolicyMany, len(full) + 1},
		{full + "on $", api.ErrPolicyMany, len(full)},
		{full + "on ;", api.ErrPolicyMany, len(full)},
		{full + "off", api.ErrPolicyWord, len(full)},
		{full + ";", api.ErrPolicyWord, len(full)},
		{full + "$", api.ErrLexByte, len(full)},
		{full + strings.Repeat(rule, 1000), api.ErrPolicyMany, len(full)},
		{full[:len(full)-1] + "$", api.ErrLexByte, len(full) - 1},
		{full[:len(full)-1], api.ErrPolicyWord, len(full) - 1},
	} {
		p, err, at := policy.Parse(c.text)
		if err != c.err || at != c.at || err != api.OK && p.Rules != nil || err == api.OK && len(p.Rules) < 511 {
			t.Errorf("Parse of %d bytes is %d, %d, not %d, %d", len(c.text), err, at, c.err, c.at)
		}
	}
	holdParse(t, full)
	holdParse(t, full+"on")
	holdParse(t, full+"off")
}

// A rule may have any number of calls, an expression any number of arguments.
func TestParseOfLongLists(t *testing.T) {
	const n = 5000
	p, err, _ := policy.Parse(head + "on 0" + strings.Repeat(", read", n) + " do log;")
	if err != api.OK || len(p.Rules) != 1 || len(p.Rules[0].Calls) != n+1 || p.Rules[0].Calls[n] != (api.Call{Name: "read"}) {
		t.Errorf("of %d calls: %d", n+1, err)
	}
	for op, mark := range map[api.ExprOp]string{api.ExprAnd: " and ", api.ExprOr: " or "} {
		text := strings.Repeat("true"+mark, n) + "false"
		e, err, _ := policy.ParseExpr(text)
		if err != api.OK || e.Op != op || len(e.Args) != n+1 || e.Args[n].Op != api.ExprFalse || policy.PrintExpr(e) != text {
			t.Errorf("of %d arguments: %d", n+1, err)
		}
	}
}
