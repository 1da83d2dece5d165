package sem_test

import (
	"math"
	"reflect"
	"testing"

	"ravelin/api"
	"ravelin/sem"
)

// holdExpr holds Expr of an expression against the chapter; Holds of one that may not be is false.
func holdExpr(t *testing.T, e api.Expr) api.Errno {
	t.Helper()
	want := exprByHand(e)
	if err := sem.Expr(e); err != want {
		t.Fatalf("Expr of %.300v is %d, not %d", e, err, want)
	}
	if want != 0 && sem.Holds(e, api.Data{}) {
		t.Fatalf("%.300v holds, but may not be", e)
	}
	return want
}

func TestExprExamples(t *testing.T) {
	yes, no, right := with(1), with(2), test(0, whole, 1, 0)
	bare, loose := test(6, 0, 1, 0), test(0, 3, 1, 4)
	for i, c := range []struct {
		e    api.Expr
		want api.Errno
	}{
		{yes, 0}, {no, 0}, {right, 0}, {with(3, yes), 0}, {with(4, yes, no), 0}, {with(5, right, no, yes), 0},
		{test(6, 1, 6, 1), 0}, {test(5, 1<<63, 6, 1<<63), 0}, {test(0, 3, 2, 3), 0},
		{api.Expr{Op: 1, Field: 9, Rel: -1, Value: 7}, 0},
		{api.Expr{Op: 4, Args: []api.Expr{yes, no}, Field: -1, Value: 1}, 0},
		{bare, 75}, {loose, 75}, {test(0, 0, 1, 1), 75}, {test(0, 1<<32, 1, 1), 75}, {test(0, 1, 1, 1<<32+1), 75},
		{test(0, whole>>1, 3, whole), 75},
		{api.Expr{}, 76}, {api.Expr{Op: 7}, 76}, {api.Expr{Op: -1}, 76}, {api.Expr{Op: math.MinInt}, 76}, {api.Expr{Op: 1<<32 + 1}, 76},
		{with(1, yes), 76}, {with(2, no), 76}, {with(3), 76}, {with(3, yes, yes), 76}, {with(4), 76}, {with(4, yes), 76}, {with(5), 76}, {with(5, no), 76},
		{api.Expr{Op: 6, Args: []api.Expr{yes}, Mask: 1, Rel: 1}, 76},
		{test(7, 1, 1, 0), 76}, {test(-1, 1, 1, 0), 76}, {test(math.MinInt, 1, 1, 0), 76}, {test(1<<32, 1, 1, 0), 76},
		{test(0, 1, 0, 0), 76}, {test(0, 1, 7, 0), 76}, {test(0, 1, -1, 0), 76}, {test(0, 1, 1<<32+1, 0), 76},
		// All but the mask or the value must be right.
		{test(7, 0, 1, 0), 76}, {test(0, 0, 7, 0), 76}, {test(-1, 3, 1, 4), 76}, {test(0, 3, 0, 4), 76},
		{api.Expr{Op: 6, Args: []api.Expr{yes}, Rel: 1}, 76}, {api.Expr{Op: 6, Args: []api.Expr{bare}, Mask: 1, Rel: 1}, 76},
		// The first one that may not be is told, each ahead of its arguments.
		{with(3, bare), 75}, {with(3, api.Expr{}), 76}, {with(4, bare, api.Expr{}), 75}, {with(4, api.Expr{}, bare), 76},
		{with(5, yes, right, loose), 75}, {with(5, yes, with(3, with(4, no, loose)), api.Expr{}), 75},
		{with(4, with(3, with(3, api.Expr{})), bare), 76}, {with(4, with(5, yes), bare), 76}, {with(4, bare, with(5, yes)), 75},
		{with(4, bare), 76}, {with(3, bare, bare), 76}, {with(1, bare), 76}, {api.Expr{Op: 9, Args: []api.Expr{bare}}, 76},
	} {
		if err := sem.Expr(c.e); err != c.want {
			t.Errorf("%d: Expr of %v is %d, not %d", i, c.e, err, c.want)
		}
		holdExpr(t, c.e)
	}
}

// All expressions that have little in them: each operation with few arguments, some of which may not be.
func TestExprOfAllSmallOnes(t *testing.T) {
	leaves := []api.Expr{{}, with(1), with(2), test(0, 1, 1, 1), test(6, 0, 6, 0), test(7, 1, 1, 1)}
	lists := [][]api.Expr{nil, {}}
	for _, a := range leaves {
		lists = append(lists, []api.Expr{a})
		for _, b := range leaves {
			lists = append(lists, []api.Expr{a, b}, []api.Expr{with(3, a), b}, []api.Expr{a, b, a})
		}
	}
	for op := api.ExprOp(-2); op <= 9; op++ {
		for _, args := range lists {
			holdExpr(t, api.Expr{Op: op, Args: args})
			holdExpr(t, with(3, api.Expr{Op: op, Args: args, Field: 6, Mask: 1, Rel: 6, Value: 1}))
		}
	}
	seen := map[api.Errno]int{}
	for field := -2; field <= 9; field++ {
		for rel := api.Rel(-2); rel <= 9; rel++ {
			for _, mask := range edges() {
				for _, value := range edges() {
					seen[holdExpr(t, test(field, mask, rel, value))]++
				}
			}
		}
	}
	if seen[0] < 1000 || seen[75] < 1000 || seen[76] < 1000 {
		t.Errorf("of tests it is told: %v", seen)
	}
}

// At the depth that may just be, and by it: an expression may stand within 200 others.
func TestExprOfDeepNests(t *testing.T) {
	right, bare := test(0, 1, 1, 1), test(0, 0, 1, 0)
	for _, kinds := range []string{"n", "a", "o", "noa", "aann"} {
		for times := 196; times <= 204; times++ {
			for _, e := range []api.Expr{with(1), right, bare, {}, with(3), with(3, bare), with(4, right, bare), with(5, bare, with(1))} {
				holdExpr(t, nest(kinds, times, e))
			}
		}
		for _, c := range []struct {
			e     api.Expr
			times int
			want  api.Errno
		}{
			{right, 199, 0}, {right, 200, 0}, {right, 201, 76}, {right, 202, 76},
			{bare, 199, 75}, {bare, 200, 75}, {bare, 201, 76}, {bare, 202, 76},
			{with(3, right), 199, 0}, {with(3, right), 200, 76},
		} {
			if err := sem.Expr(nest(kinds, c.times, c.e)); err != c.want {
				t.Errorf("Expr of %v within %d of %q is %d, not %d", c.e, c.times, kinds, err, c.want)
			}
		}
	}
	// What stands ahead of one that is too deep is told, what stands behind it or within it is not.
	deep := nest("n", 200, right)
	for _, c := range []struct {
		e    api.Expr
		want api.Errno
	}{
		{with(4, deep, bare), 76}, {with(4, bare, deep), 75}, {with(4, deep.Args[0], bare), 75}, {with(4, bare, deep.Args[0]), 75}, {with(5, deep.Args[0], deep.Args[0]), 0},
	} {
		if err := sem.Expr(c.e); err != c.want {
			t.Errorf("it is told %d, not %d", err, c.want)
		}
		holdExpr(t, c.e)
	}
}

// At the bounds of what may be given at all, calls end.
func TestExprOfHugeOnes(t *testing.T) {
	deepest := nest("nao", 1<<16-1, with(1))
	widest := with(4)
	for range 1 << 20 {
		widest.Args = append(widest.Args, with(1))
	}
	if err := sem.Expr(deepest); err != 76 || sem.Holds(deepest, api.Data{}) {
		t.Errorf("Expr of a deep nest is %d", err)
	}
	if err := sem.Expr(widest); err != 0 || !sem.Holds(widest, api.Data{}) {
		t.Errorf("Expr of a wide one is %d", err)
	}
	widest.Args[len(widest.Args)-1] = test(0, 0, 1, 0)
	if err := sem.Expr(widest); err != 75 || sem.Holds(widest, api.Data{}) {
		t.Errorf("Expr of a wide one that may not be is %d", err)
	}
}

// Expressions that follow no shape, right ones and nearly right ones; what is handed in is not changed.
func TestExprOfAllShapes(t *testing.T) {
	r := random(11)
	seen := map[api.Errno]int{}
	for range 30000 {
		e := r.expr(r.below(6))
		if holdExpr(t, e) != 0 {
			t.Fatalf("%v may be", e)
		}
		e = r.spoiled(e)
		was := copied(e)
		seen[holdExpr(t, e)]++
		if !reflect.DeepEqual(e, was) {
			t.Fatalf("%v was %v", e, was)
		}
	}
	if seen[0] < 1000 || seen[75] < 1000 || seen[76] < 1000 {
		t.Errorf("it is told: %v", seen)
	}
}
