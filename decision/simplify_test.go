package decision_test

import (
	"math"
	"reflect"
	"testing"

	"ravelin/api"
	"ravelin/decision"
	"ravelin/policy"
	"ravelin/sem"
)

// same: are expressions alike, lists without anything in them too?
func same(a, b api.Expr) bool {
	if len(a.Args) != len(b.Args) {
		return false
	}
	for i := range a.Args {
		if !same(a.Args[i], b.Args[i]) {
			return false
		}
	}
	a.Args, b.Args = nil, nil
	return reflect.DeepEqual(a, b)
}

// holdSimplify holds Simplify of an expression that may be against the chapter; and what is simple is that once more.
func holdSimplify(t *testing.T, e api.Expr) api.Expr {
	t.Helper()
	want := simpleByHand(e)
	got := decision.Simplify(e)
	if !same(got, want) {
		t.Fatalf("Simplify of %v is %v, not %v", e, got, want)
	}
	if again := decision.Simplify(got); !same(again, got) {
		t.Fatalf("Simplify of %v, which is simple, is %v", got, again)
	}
	return got
}

func expr(t *testing.T, text string) api.Expr {
	t.Helper()
	e, err, at := policy.ParseExpr(text)
	if err != api.OK {
		t.Fatalf("%q is no expression: %d at %d", text, err, at)
	}
	return e
}

func TestSimplifyExamples(t *testing.T) {
	for text, want := range map[string]string{
		"not (true and arg0 >= 0) or arg1 == 1": "arg1 == 1",
		"true":                                  "true",
		"false":                                 "false",
		"not true":                              "false",
		"not false":                             "true",
		"not not true":                          "true",
		"not arg0 == 1":                         "not arg0 == 1",
		"not not arg0 == 1":                     "not not arg0 == 1",
		"not arg0 >= 0":                         "false",
		"true and true":                         "true",
		"true and false and arg0 == 1":          "false",
		"arg0 == 1 and arg0 < 0":                "false",
		"arg0 == 1 and true":                    "arg0 == 1",
		"true and arg0 == 1 and true and arg1 == 2 and true": "arg0 == 1 and arg1 == 2",
		"false or false":                                             "false",
		"arg0 == 1 or true":                                          "true",
		"arg0 == 1 or false":                                         "arg0 == 1",
		"false or arg1 == 2 or false or arg0 == 1":                   "arg1 == 2 or arg0 == 1",
		"arg0 == 1 and arg0 == 1":                                    "arg0 == 1 and arg0 == 1",
		"arg0 == 1 or not arg0 == 1":                                 "arg0 == 1 or not arg0 == 1",
		"(arg0 == 1 and arg1 == 2) and arg2 == 3":                    "(arg0 == 1 and arg1 == 2) and arg2 == 3",
		"(arg0 == 1 and arg1 == 2 or false) and (arg2 == 3 or true)": "arg0 == 1 and arg1 == 2",
		"(arg0 == 1 or false) and (false or arg1 == 2)":              "arg0 == 1 and arg1 == 2",
		"ip >= 0":                           "true",
		"ip < 0":                            "false",
		"ip <= 18446744073709551615":        "true",
		"ip > 18446744073709551615":         "false",
		"ip <= 0":                           "ip <= 0",
		"ip > 0":                            "ip > 0",
		"ip >= 18446744073709551615":        "ip >= 18446744073709551615",
		"ip < 18446744073709551615":         "ip < 18446744073709551615",
		"ip <= 18446744073709551614":        "ip <= 18446744073709551614",
		"ip == 0":                           "ip == 0",
		"ip != 18446744073709551615":        "ip != 18446744073709551615",
		"arg5 & 6 <= 6":                     "true",
		"arg5 & 6 > 6":                      "false",
		"arg5 & 6 >= 6":                     "arg5 & 0x6 >= 6",
		"arg5 & 6 <= 4":                     "arg5 & 0x6 <= 4",
		"arg5 & 6 == 6":                     "arg5 & 0x6 == 6",
		"arg5 & 0x100000000 <= 0":           "arg5 & 0x100000000 <= 0",
		"arg5 & 0x100000000 <= 4294967296":  "true",
		"arg5 & 0xffffffff <= 4294967295":   "true",
		"arg5 <= 4294967295":                "arg5 <= 4294967295",
		"not (arg5 & 6 > 6) and arg1 == 1":  "arg1 == 1",
		"not (arg5 & 6 <= 6) and arg1 == 1": "false",
	} {
		e := expr(t, text)
		if s := policy.PrintExpr(decision.Simplify(e)); s != want {
			t.Errorf("Simplify of %q is %q, not %q", text, s, want)
		}
		holdSimplify(t, e)
	}
}

// Of what may not be: a zero expression, wherever that stands.
func TestSimplifyOfWhatMayNotBe(t *testing.T) {
	yes := with(1)
	for _, wrong := range []api.Expr{{}, {Op: 7}, {Op: -1}, {Op: math.MinInt}, {Op: 1<<32 + 1}, with(1, yes), with(2, yes), with(3), with(3, yes, yes), with(4), with(4, yes), with(5), with(5, yes), {Op: 6, Args: []api.Expr{yes}, Mask: 1, Rel: 1}, test(0, 0, 6, 0), test(0, 1, 2, 2), test(0, 1, 0, 0), test(0, 1, 7, 0), test(7, 1, 1, 0), test(-1, 1, 6, 0), test(math.MaxInt, 1, 6, 0), nested(201, yes), nested(1<<16-1, yes)} {
		for i, e := range []api.Expr{wrong, with(3, wrong), with(3, with(3, wrong)), with(5, yes, wrong), with(5, wrong, yes), with(4, with(2), wrong), with(4, wrong, with(2))} {
			if s := decision.Simplify(e); !reflect.DeepEqual(s, api.Expr{}) {
				t.Errorf("%d: Simplify of %.200v, which may not be, is %v", i, e, s)
			}
		}
	}
	if s := decision.Simplify(nested(200, yes)); !same(s, yes) {
		t.Errorf("Simplify of true within 200 others is %v", s)
	}
	deep := nested(200, test(0, 1, 1, 1))
	holdSimplify(t, deep)
}

// All expressions that have little in them.
func TestSimplifyOfAllSmallOnes(t *testing.T) {
	leaves := []api.Expr{with(1), with(2), test(0, 6, 1, 6), test(0, 6, 6, 0), test(6, 6, 5, 6)}
	small := leaves
	for _, a := range leaves {
		small = append(small, with(3, a))
		for _, b := range leaves {
			small = append(small, with(4, a, b), with(5, a, b))
		}
	}
	for _, a := range small {
		holdSimplify(t, a)
		for _, b := range small {
			for op := api.ExprOp(4); op <= 5; op++ {
				holdSimplify(t, with(op, a, b))
				holdSimplify(t, with(op, b, with(3, a), b))
			}
		}
	}
	for field := range 7 {
		for _, mask := range edges() {
			for _, value := range append(edges(), mask, mask-1) {
				for rel := api.Rel(1); mask > 0 && rel <= 6; rel++ {
					holdSimplify(t, test(field, mask, rel, value&mask))
				}
			}
		}
	}
}

// constant: has an expression a part that says nothing of data?
func constant(e api.Expr) bool {
	for _, arg := range e.Args {
		if constant(arg) {
			return true
		}
	}
	return e.Op == 1 || e.Op == 2
}

// parts are all expressions that stand in one, in lists and in their spare room.
func parts(e api.Expr, each func(x *api.Expr)) {
	l := e.Args[:cap(e.Args)]
	for i := range l {
		each(&l[i])
		parts(l[i], each)
	}
}

// Expressions that follow no shape: what is simple says the same, and has no constant part; what is handed in is not changed, and shared with nothing (P3).
func TestSimplifyOfAllShapes(t *testing.T) {
	r := random(41)
	seen := map[api.ExprOp]int{}
	for range 20000 {
		e := r.expr(r.below(6))
		was := copied(e)
		s := holdSimplify(t, e)
		seen[s.Op]++
		if s.Op > 2 && constant(s) {
			t.Fatalf("%v, which is simple, has a constant part", s)
		}
		if sem.Expr(s) != api.OK {
			t.Fatalf("%v, which is simple, may not be", s)
		}
		for range 4 {
			d := r.data(api.Policy{Rules: []api.Rule{{Calls: []api.Call{{}}, When: e}}})
			if sem.Holds(e, d) != sem.Holds(s, d) {
				t.Fatalf("%v and %v say other things of %v", e, s, d)
			}
		}
		met := map[*api.Expr]bool{}
		once := func(x *api.Expr) {
			if met[x] {
				t.Fatalf("%v and %v share a list", e, s)
			}
			met[x] = true
		}
		parts(e, once)
		parts(s, once)
		parts(s, func(x *api.Expr) { x.Op, x.Field = -1, -1 })
		if !reflect.DeepEqual(e, was) {
			t.Fatalf("%v was %v", e, was)
		}
	}
	for op := api.ExprOp(1); op <= 6; op++ {
		if seen[op] < 500 {
			t.Errorf("what is simple: %v", seen)
		}
	}
}

// One list that stands in several places of an expression stands in no two of what is simple.
func TestSimplifySharesNothing(t *testing.T) {
	pair := []api.Expr{test(0, 1, 1, 1), test(1, 1, 1, 1), with(1)}[:2]
	e := with(4, with(5, pair...), with(5, pair...), with(3, with(5, pair...)))
	s := holdSimplify(t, e)
	met := map[*api.Expr]bool{}
	parts(s, func(x *api.Expr) {
		if met[x] || x == &pair[0] || x == &pair[1] {
			t.Fatalf("%v shares a list", s)
		}
		met[x] = true
	})
	parts(s, func(x *api.Expr) { *x = api.Expr{} })
	if l := pair[:3]; l[0].Op != 6 || l[1].Op != 6 || l[2].Op != 1 {
		t.Errorf("what was handed in is %v", l)
	}
}
