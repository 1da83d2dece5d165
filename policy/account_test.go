package policy_test

import (
	"fmt"
	"reflect"
	"slices"
	"strings"
	"testing"

	"ravelin/api"
	"ravelin/lex"
	"ravelin/policy"
)

// short is a text as it is told where a test fails.
func short(text string) string { return text[:min(len(text), 300)] }

// partsOf cuts tokens at those of a text which stand within no parentheses.
func partsOf(l []api.Token, mark string) [][]api.Token {
	var parts [][]api.Token
	from, within := 0, 0
	for i, t := range l {
		switch {
		case t.Text == "(":
			within++
		case t.Text == ")":
			within--
		case t.Text == mark && within == 0:
			parts = append(parts, l[from:i])
			from = i + 1
		}
	}
	return append(parts, l[from:])
}

// exprByHand is the expression of tokens that are one: they are cut at the weakest of their words.
func exprByHand(l []api.Token) api.Expr {
	for _, weak := range []struct {
		op   api.ExprOp
		mark string
	}{{5, "or"}, {4, "and"}} {
		if parts := partsOf(l, weak.mark); len(parts) > 1 {
			e := api.Expr{Op: weak.op}
			for _, part := range parts {
				e.Args = append(e.Args, exprByHand(part))
			}
			return e
		}
	}
	switch l[0].Text {
	case "not":
		return api.Expr{Op: 3, Args: []api.Expr{exprByHand(l[1:])}}
	case "(":
		return exprByHand(l[1 : len(l)-1])
	case "true":
		return api.Expr{Op: 1}
	case "false":
		return api.Expr{Op: 2}
	}
	e := api.Expr{Op: 6, Field: int(l[0].Text[len(l[0].Text)-1] - '0'), Mask: 0xffffffffffffffff, Value: l[len(l)-1].Num}
	if l[0].Text == "ip" {
		e.Field = 6
	}
	if len(l) == 5 {
		e.Mask = l[2].Num
	}
	e.Rel = map[string]api.Rel{"==": 1, "!=": 2, "<": 3, "<=": 4, ">": 5, ">=": 6}[l[len(l)-2].Text]
	return e
}

var kindsByHand = map[string]api.ActionKind{"kill_process": 1, "kill_thread": 2, "trap": 3, "errno": 4, "notify": 5, "trace": 6, "log": 7, "allow": 8}

// verdictByHand is that of one token or two.
func verdictByHand(l []api.Token) api.Verdict {
	v := api.Verdict{Kind: kindsByHand[l[0].Text]}
	if len(l) == 2 {
		v.Data = l[1].Num
	}
	return v
}

// policyByHand is that of tokens which are one, without the end.
func policyByHand(l []api.Token) api.Policy {
	parts := partsOf(l, ";")
	p := api.Policy{Arch: parts[0][1].Text, Foreign: verdictByHand(parts[1][1:]), Default: verdictByHand(parts[2][1:])}
	for _, part := range parts[3 : len(parts)-1] {
		p.Rules = append(p.Rules, ruleByHand(part))
	}
	return p
}

// ruleByHand is that of tokens which are one, without its `;`.
func ruleByHand(l []api.Token) api.Rule {
	var x api.Rule
	i := 0
	for i == 0 || l[i].Text == "," {
		c := api.Call{Nr: l[i+1].Num}
		if l[i+1].Kind == 2 {
			c.Name = l[i+1].Text
		}
		x.Calls = append(x.Calls, c)
		i += 2
	}
	do := len(l) - 2
	if l[do].Text != "do" {
		do--
	}
	x.When, x.Do = api.Expr{Op: 1}, verdictByHand(l[do+1:])
	if i < do {
		x.When = exprByHand(l[i+1 : do])
	}
	return x
}

// never: no parentheses but those that there have to be.
func never() bool { return false }

// written are the texts of an expression's tokens, with more parentheses than there have to be where more says so.
func written(e api.Expr, more func() bool) []string {
	switch e.Op {
	case 1:
		return []string{"true"}
	case 2:
		return []string{"false"}
	case 3:
		return append([]string{"not"}, enclosed(e.Args[0], more, 4, 5)...)
	case 6:
		l := []string{[]string{"arg0", "arg1", "arg2", "arg3", "arg4", "arg5", "ip"}[e.Field]}
		if e.Mask != 0xffffffffffffffff {
			l = append(l, "&", fmt.Sprintf("%#x", e.Mask))
		}
		return append(l, []string{"==", "!=", "<", "<=", ">", ">="}[e.Rel-1], fmt.Sprint(e.Value))
	}
	var l []string
	for _, arg := range e.Args {
		if e.Op == 4 {
			l = append(append(l, "and"), enclosed(arg, more, 4, 5)...)
		} else {
			l = append(append(l, "or"), enclosed(arg, more, 5)...)
		}
	}
	return l[1:]
}

// enclosed is an expression, within parentheses if it is of certain ones, and as often as more says so.
func enclosed(e api.Expr, more func() bool, ops ...api.ExprOp) []string {
	l := written(e, more)
	for must := slices.Contains(ops, e.Op); must || more(); must = false {
		l = append(append([]string{"("}, l...), ")")
	}
	return l
}

// spaced puts texts together by the chapter's rule of blanks.
func spaced(l []string) string {
	s := strings.Join(l, " ")
	for _, mark := range []string{",", ";", ")"} {
		s = strings.ReplaceAll(s, " "+mark, mark)
	}
	return strings.ReplaceAll(s, "( ", "(")
}

func writtenVerdict(v api.Verdict) []string {
	for word, kind := range kindsByHand {
		if kind == v.Kind && (kind == 3 || kind == 4 || kind == 6) {
			return []string{word, fmt.Sprint(v.Data)}
		} else if kind == v.Kind {
			return []string{word}
		}
	}
	panic("no such kind")
}

func writtenRule(x api.Rule, more func() bool) []string {
	l := []string{"on"}
	for i, c := range x.Calls {
		if i > 0 {
			l = append(l, ",")
		}
		if c.Name != "" {
			l = append(l, c.Name)
		} else {
			l = append(l, fmt.Sprint(c.Nr))
		}
	}
	if x.When.Op != 1 || more() {
		l = append(append(l, "when"), enclosed(x.When, more)...)
	}
	return append(append(append(l, "do"), writtenVerdict(x.Do)...), ";")
}

// writtenPolicy are the texts of a policy's tokens, line by line.
func writtenPolicy(p api.Policy, more func() bool) [][]string {
	lines := [][]string{
		{"arch", p.Arch, ";"},
		append(append([]string{"foreign"}, writtenVerdict(p.Foreign)...), ";"),
		append(append([]string{"default"}, writtenVerdict(p.Default)...), ";"),
	}
	for _, x := range p.Rules {
		lines = append(lines, writtenRule(x, more))
	}
	return lines
}

// printByHand is what Print is to say.
func printByHand(p api.Policy) string {
	s := ""
	for _, line := range writtenPolicy(p, never) {
		s += spaced(line) + "\n"
	}
	return s
}

// holdParse holds Parse of a text against the chapter, and P6.2 of what it answers.
func holdParse(t *testing.T, text string) api.Errno {
	t.Helper()
	wantErr, wantAt, _, l := judge("policy", text)
	var want api.Policy
	if wantErr == 0 {
		want = policyByHand(l[:len(l)-1])
	}
	p, err, at := policy.Parse(text)
	if err != wantErr || at != wantAt || !reflect.DeepEqual(p, want) {
		t.Fatalf("Parse of %q is %v, %d, %d, not %v, %d, %d", short(text), p, err, at, want, wantErr, wantAt)
	}
	if err == 0 {
		holdPrint(t, p)
	}
	return err
}

// holdPrint holds Print of what Parse may answer against the chapter, and P6.2.
func holdPrint(t *testing.T, p api.Policy) {
	t.Helper()
	s := policy.Print(p)
	if want := printByHand(p); s != want {
		t.Fatalf("Print of %v is %q, not %q", p, short(s), short(want))
	}
	again, err, at := policy.Parse(s)
	if len(s) > 65536 {
		if err != 54 {
			t.Fatalf("Parse of %d bytes is %d", len(s), err)
		}
		return
	}
	if err != 0 || at != 0 || !reflect.DeepEqual(again, p) || policy.Print(again) != s {
		t.Fatalf("%q is read as %v, %d, %d", short(s), again, err, at)
	}
}

// holdExpr holds ParseExpr of a text against the chapter, and PrintExpr and Depth of what it answers.
func holdExpr(t *testing.T, text string) api.Errno {
	t.Helper()
	wantErr, wantAt, deep, l := judge("EXPR", text)
	var want api.Expr
	if wantErr == 0 {
		want = exprByHand(l[:len(l)-1])
	}
	e, err, at := policy.ParseExpr(text)
	if err != wantErr || at != wantAt || !reflect.DeepEqual(e, want) {
		t.Fatalf("ParseExpr of %q is %v, %d, %d, not %v, %d, %d", short(text), e, err, at, want, wantErr, wantAt)
	}
	if err == 0 && holdPrintExpr(t, e) > deep {
		t.Fatalf("%q, of the depth %d, is written with the depth %d", short(text), deep, policy.Depth(e))
	}
	return err
}

// holdPrintExpr holds PrintExpr and Depth of what ParseExpr may answer against the chapter; it answers the depth.
func holdPrintExpr(t *testing.T, e api.Expr) int {
	t.Helper()
	s := policy.PrintExpr(e)
	if want := spaced(written(e, never)); s != want {
		t.Fatalf("PrintExpr of %v is %q, not %q", e, short(s), short(want))
	}
	if len(s) > 65536 {
		return policy.Depth(e)
	}
	wantErr, _, deep, _ := judge("EXPR", s)
	again, err, at := policy.ParseExpr(s)
	if err != wantErr || err != 0 || at != 0 || !reflect.DeepEqual(again, e) || policy.PrintExpr(again) != s {
		t.Fatalf("%q is read as %v, %d, %d", short(s), again, err, at)
	}
	if policy.Depth(e) != deep {
		t.Fatalf("Depth of %q is %d, not %d", short(s), policy.Depth(e), deep)
	}
	return deep
}

// tokens are the texts of all tokens, without the end.
func tokens(text string) []string {
	var l []string
	for t, err := range lex.All(text) {
		if err == 0 && t.Kind != 1 {
			l = append(l, t.Text)
		}
	}
	return l
}
