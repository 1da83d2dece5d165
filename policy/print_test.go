package policy_test

import (
	"math"
	"reflect"
	"slices"
	"strings"
	"testing"

	"ravelin/api"
	"ravelin/policy"
)

func TestPrintExamples(t *testing.T) {
	p := api.Policy{Arch: "arch", Foreign: api.Verdict{Kind: api.Trap, Data: whole}, Default: api.Verdict{Kind: api.KillThread}, Rules: []api.Rule{
		{Calls: []api.Call{{Nr: 0}}, When: api.Expr{Op: 1}, Do: api.Verdict{Kind: api.Notify}},
		{Calls: []api.Call{{Nr: 18446744073709551615}, {Name: "on"}}, When: api.Expr{Op: 2}, Do: api.Verdict{Kind: api.Trace, Data: 0}},
		{Calls: []api.Call{{Name: "a"}, {Name: "a"}, {Nr: 7}}, When: with(3, with(4, test(6, 0xabc, 6, 10), api.Expr{Op: 1})), Do: api.Verdict{Kind: api.Fault, Data: 70000}},
	}}
	want := "arch arch;\nforeign trap 18446744073709551615;\ndefault kill_thread;\n" +
		"on 0 do notify;\non 18446744073709551615, on when false do trace 0;\non a, a, 7 when not (ip & 0xabc >= 10 and true) do errno 70000;\n"
	if s := policy.Print(p); s != want {
		t.Errorf("it is written %q, not %q", s, want)
	}
	holdPrint(t, p)
	for kind, want := range map[api.ActionKind]string{1: "kill_process", 2: "kill_thread", 3: "trap 9", 4: "errno 9", 5: "notify", 6: "trace 9", 7: "log", 8: "allow"} {
		v := api.Verdict{Kind: kind}
		if strings.HasSuffix(want, "9") {
			v.Data = 9
		}
		s := policy.Print(api.Policy{Arch: "x", Foreign: v, Default: v, Rules: []api.Rule{{Calls: []api.Call{{Nr: 1}}, When: api.Expr{Op: 1}, Do: v}}})
		if s != "arch x;\nforeign "+want+";\ndefault "+want+";\non 1 do "+want+";\n" {
			t.Errorf("of the kind %d it is written %q", kind, s)
		}
	}
}

func TestPrintExprExamples(t *testing.T) {
	yes, no := api.Expr{Op: 1}, api.Expr{Op: 2}
	and, or := with(4, yes, no), with(5, yes, no)
	for _, c := range []struct {
		e     api.Expr
		want  string
		depth int
	}{
		{yes, "true", 0},
		{no, "false", 0},
		{and, "true and false", 0},
		{or, "true or false", 0},
		{with(4, and, yes, or), "(true and false) and true and (true or false)", 1},
		{with(5, and, yes, or), "true and false or true or (true or false)", 1},
		{with(5, and, yes, and), "true and false or true or true and false", 0},
		{with(3, yes), "not true", 1},
		{with(3, and), "not (true and false)", 2},
		{with(3, or), "not (true or false)", 2},
		{with(3, with(3, no)), "not not false", 2},
		{with(3, test(6, whole, 5, 1)), "not ip > 1", 1},
		{with(4, with(3, or), with(3, yes)), "not (true or false) and not true", 2},
		{with(5, with(3, yes), with(4, or, with(3, with(3, no)))), "not true or (true or false) and not not false", 2},
		{with(4, yes, with(5, no, with(4, yes, with(5, no, yes)))), "true and (false or true and (false or true))", 2},
		{test(0, whole, 1, 0), "arg0 == 0", 0},
		{test(1, 0, 2, whole), "arg1 & 0x0 != 18446744073709551615", 0},
		{test(2, 1, 3, 16), "arg2 & 0x1 < 16", 0},
		{test(3, 0xff00, 4, 10), "arg3 & 0xff00 <= 10", 0},
		{test(4, whole-1, 5, 1<<63), "arg4 & 0xfffffffffffffffe > 9223372036854775808", 0},
		{test(5, 1<<63, 6, 1), "arg5 & 0x8000000000000000 >= 1", 0},
	} {
		if s, depth := policy.PrintExpr(c.e), policy.Depth(c.e); s != c.want || depth != c.depth {
			t.Errorf("%v is written %q with the depth %d, not %q, %d", c.e, s, depth, c.want, c.depth)
		}
		holdPrintExpr(t, c.e)
	}
	e, err, _ := policy.ParseExpr("((not ((ip > 1))))")
	if s, depth := policy.PrintExpr(e), policy.Depth(e); err != api.OK || s != "not ip > 1" || depth != 1 {
		t.Errorf("it is written %q with the depth %d", s, depth)
	}
}

// P6.2 at the depth that may just be.
func TestPrintOfDeepNests(t *testing.T) {
	for n := 60; n <= 64; n++ {
		for _, text := range []string{nested("n", n, "true"), nested("n(", n, "true or false"), nested("(", n, "true"), nested("(", n, "true or false")} {
			if err := holdExpr(t, text); err != api.OK {
				t.Errorf("ParseExpr of %q is %d", text, err)
			}
		}
		e := test(0, 3, 1, 1)
		for i := range 2*n + 2 { // `or` and `and` by turns: each second one asks for parentheses
			e = with(api.ExprOp(4+i%2), e, api.Expr{Op: 1})
		}
		if depth := holdPrintExpr(t, e); depth != n {
			t.Errorf("the depth is %d, not %d", depth, n)
		}
	}
}

// What Parse reads may be longer when it is written, and too long to be read.
func TestPrintOfLongPolicies(t *testing.T) {
	text := strings.ReplaceAll(head, " log", "\tlog") + "on a when arg0==1" + strings.Repeat(" or ip<0xf", 6540) + " do log;"
	if err := holdParse(t, text); err != api.OK || len(text) > 65536 {
		t.Errorf("of %d bytes: %d", len(text), err)
	}
	text = head + strings.Repeat("on a do log;", 512) + strings.Repeat(" ", 65536-len(head)-512*12)
	if err := holdParse(t, text); err != api.OK {
		t.Errorf("of %d bytes: %d", len(text), err)
	}
}

// junk is an expression that mostly may not be.
func (r *random) junk(depth int) api.Expr {
	e := api.Expr{Op: api.ExprOp(r.below(9) - 1), Field: r.below(9) - 1, Mask: r.number(), Rel: api.Rel(r.below(9) - 1), Value: r.number()}
	if r.below(40) == 0 {
		e.Op, e.Field, e.Rel = math.MinInt, math.MaxInt, math.MinInt
	}
	if depth > 0 {
		for range r.below(4) {
			e.Args = append(e.Args, r.junk(depth-1))
		}
	}
	return e
}

// junkPolicy is a policy that mostly may not be.
func (r *random) junkPolicy() api.Policy {
	name := func() string {
		l := []string{"", "x", "0", "x y", "x; foreign log", "a,b", "#", "\n", "a#", strings.Repeat("w", 33), "é", "read", "?"}
		return l[r.below(len(l))]
	}
	verdict := func() api.Verdict {
		kinds := []api.ActionKind{0, 1, 2, 3, 4, 5, 6, 7, 8, 9, -1, math.MinInt, math.MaxInt}
		return api.Verdict{Kind: kinds[r.below(len(kinds))], Data: r.number()}
	}
	p := api.Policy{Arch: name(), Foreign: verdict(), Default: verdict()}
	for range r.below(4) {
		x := api.Rule{When: r.junk(r.below(4)), Do: verdict()}
		for range r.below(3) {
			x.Calls = append(x.Calls, api.Call{Name: name(), Nr: r.number()})
		}
		p.Rules = append(p.Rules, x)
	}
	return p
}

// plain is an expression without what its operations do not name.
func plain(e api.Expr) api.Expr {
	switch e.Op {
	case 1, 2:
		return api.Expr{Op: e.Op}
	case 6:
		return api.Expr{Op: 6, Field: e.Field, Mask: e.Mask, Rel: e.Rel, Value: e.Value}
	}
	x := api.Expr{Op: e.Op}
	for _, arg := range e.Args {
		x.Args = append(x.Args, plain(arg))
	}
	return x
}

// P1: of what no text says there is a text too; it is never read as something else.
func TestPrintOfAnything(t *testing.T) {
	r := random(13)
	read, refused := 0, 0
	for range 20000 {
		e := r.junk(r.below(4))
		before := plain(e)
		s, depth := policy.PrintExpr(e), policy.Depth(e)
		if s == "" || depth < 0 || !reflect.DeepEqual(plain(e), before) {
			t.Fatalf("%v is written %q, with the depth %d", e, s, depth)
		}
		if got, err, _ := policy.ParseExpr(s); err != api.OK {
			refused++
		} else if read++; !reflect.DeepEqual(got, plain(e)) {
			t.Fatalf("%v is written %q, and read as %v", e, s, got)
		}
	}
	if read < 1000 || refused < 1000 {
		t.Errorf("%d are read, %d refused", read, refused)
	}
	for range 20000 {
		p := r.junkPolicy()
		s := policy.Print(p)
		got, err, _ := policy.Parse(s)
		if s == "" || err == api.OK && policy.Print(got) != s || err == api.OK && got.Arch != p.Arch {
			t.Fatalf("%v is written %q", p, s)
		}
	}
	for _, e := range []api.Expr{{}, with(3), with(4), with(5), with(3, api.Expr{Op: 1}, api.Expr{Op: 1}), with(4, api.Expr{Op: 1}), with(5, api.Expr{}), {Op: 7}, test(7, whole, 1, 1), test(-1, whole, 1, 1), test(0, whole, 0, 1), test(0, whole, 7, 1)} {
		if _, err, _ := policy.ParseExpr(policy.PrintExpr(e)); err == api.OK {
			t.Errorf("%v is written %q", e, policy.PrintExpr(e))
		}
	}
	if s := policy.Print(api.Policy{}); s == "" {
		t.Error("nothing is written of nothing")
	}
}

// P1: expressions within one another, as many as may be handed in.
func TestPrintOfTheDeepest(t *testing.T) {
	for _, op := range []api.ExprOp{0, 1, 3, 4, 5, 6, 7} {
		e := api.Expr{Op: 1}
		for range 65535 {
			e = api.Expr{Op: op, Args: []api.Expr{e}}
			if op == 4 || op == 5 {
				e.Args = append(e.Args, api.Expr{Op: 2})
			}
		}
		s, depth := policy.PrintExpr(e), policy.Depth(e)
		if s == "" || op == 3 && (len(s) != 65535*4+4 || depth != 65535) || (op == 4 || op == 5) && depth != 65534 {
			t.Errorf("of %d: %d bytes, with the depth %d", op, len(s), depth)
		}
		policy.Print(api.Policy{Rules: []api.Rule{{When: e}}})
	}
}

// spoil writes over all that a policy has, the spare room of its lists too.
func spoil(p api.Policy) {
	for _, x := range p.Rules {
		for i := range x.Calls[:cap(x.Calls)] {
			x.Calls[:cap(x.Calls)][i] = api.Call{Name: "spoilt", Nr: 9}
		}
		spoilExpr(x.When)
	}
	for i := range p.Rules[:cap(p.Rules)] {
		p.Rules[:cap(p.Rules)][i] = api.Rule{}
	}
}

func spoilExpr(e api.Expr) {
	l := e.Args[:cap(e.Args)]
	for i := range l {
		spoilExpr(l[i])
		l[i] = api.Expr{Op: 9, Field: 9}
	}
}

// P3: what is answered is new memory, and no two lists of it share any.
func TestParseAnswersNewMemory(t *testing.T) {
	r := random(17)
	for range 300 {
		p := r.policy(1+r.below(4), 3)
		text := policy.Print(p)
		first, _, _ := policy.Parse(text)
		second, _, _ := policy.Parse(text)
		for i := range second.Rules {
			part, _, _ := policy.Parse(text)
			only := part.Rules[i]
			spoilExpr(only.When)
			part.Rules[i] = p.Rules[i]
			if !reflect.DeepEqual(part, p) {
				t.Fatalf("a change of a rule's expression is seen in %v", part)
			}
			part, _, _ = policy.Parse(text)
			calls := part.Rules[i].Calls
			for range cap(calls) - len(calls) {
				calls = append(calls, api.Call{Name: "spoilt"})
			}
			if !reflect.DeepEqual(part, p) {
				t.Fatalf("a change of a list's spare room is seen in %v", part)
			}
		}
		spoil(first)
		if third, _, _ := policy.Parse(text); !reflect.DeepEqual(second, p) || !reflect.DeepEqual(third, p) {
			t.Fatalf("a change of one answer of Parse is seen in another: %v, %v", second, third)
		}
	}
}

// P3: what is handed in is not changed, nor its spare room.
func TestPrintChangesNothing(t *testing.T) {
	r := random(19)
	for range 300 {
		p := r.policy(3, 3)
		room := slices.Grow(p.Rules, 4)
		for i := len(p.Rules); i < cap(room); i++ {
			room[:cap(room)][i] = api.Rule{Do: api.Verdict{Data: uint64(i)}}
		}
		p.Rules = room
		want, _, _ := policy.Parse(policy.Print(p))
		if s := policy.Print(p); s != printByHand(p) || !reflect.DeepEqual(p, want) {
			t.Fatalf("Print changes %v to %v", want, p)
		}
		for _, x := range p.Rules {
			policy.PrintExpr(x.When)
			policy.Depth(x.When)
		}
		if !reflect.DeepEqual(p, want) {
			t.Fatalf("PrintExpr or Depth changes %v to %v", want, p)
		}
		for i := len(p.Rules); i < cap(room); i++ {
			if !reflect.DeepEqual(room[:cap(room)][i], api.Rule{Do: api.Verdict{Data: uint64(i)}}) {
				t.Fatalf("the spare room is changed to %v", room[:cap(room)][i])
			}
		}
	}
}

func BenchmarkParse(b *testing.B) {
	text := head + strings.Repeat("on openat, 231 when arg2 & 0x3 == 0 and not (arg1 > 5 or ip < 4096) do log;\n", 512)
	for b.Loop() {
		policy.Parse(text)
	}
}
