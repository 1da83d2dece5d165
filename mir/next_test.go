package mir_test

import (
	"math"
	"slices"
	"testing"

	"ravelin/api"
	"ravelin/mir"
)

func TestUsesExamples(t *testing.T) {
	for _, c := range []struct {
		x api.Ir
		l []int
		d int
	}{
		{three(api.MirAdd, 3, 1, 2), []int{1, 2}, 3},
		{branch(api.MirIfEq, 1, 2, 0, 0), []int{1, 2}, -1},
		{konst(5, 0), nil, 5},
		{load(5, 4), nil, 5},
		{api.Ir{Op: api.MirMove, D: 4, A: 6, B: 9}, []int{6}, 4},
		{api.Ir{Op: api.MirNeg, D: 4, A: 6, B: 9}, []int{6}, 4},
		{three(api.MirShr, 3, 2, 2), []int{2, 2}, 3},
		{three(api.MirDiv, 2, 2, 2), []int{2, 2}, 2},
		{api.Ir{Op: api.MirJump, D: 1, A: 2, B: 3, T: 4}, nil, -1},
		{api.Ir{Op: api.MirReturn, D: 1, A: 2, B: 3}, []int{2}, -1},
		{api.Ir{Op: 0, D: 1, A: 2, B: 3}, nil, -1},
		{api.Ir{Op: 20, D: 1, A: 2, B: 3}, nil, -1},
		{api.Ir{Op: -1, D: 1, A: 2, B: 3}, nil, -1},
	} {
		l, d := mir.Uses(c.x)
		if !slices.Equal(l, c.l) || d != c.d {
			t.Errorf("Uses of %+v is %v, %d", c.x, l, d)
		}
		holdUses(t, c.x)
	}
}

// Each operation, and those that are none, with numbers of all shapes: Uses tells what is named, be it a register or not.
func TestUsesOfAllShapes(t *testing.T) {
	for _, op := range append(ints(19, 10), 3, 4, 5, 6, 7, 13, 14, 15, 1<<32+4) {
		for _, n := range ints() {
			for _, m := range ints() {
				holdUses(t, api.Ir{Op: api.MirOp(op), D: n, A: m, B: n, K: 7, T: m, F: n})
				holdUses(t, api.Ir{Op: api.MirOp(op), D: m, A: n, B: m, K: 7, T: 1, F: 2})
			}
		}
	}
	r := random(3)
	for range 50000 {
		holdUses(t, api.Ir{Op: api.MirOp(r.below(22) - 1), D: r.any(), A: r.any(), B: r.any(), K: r.word(), T: r.any(), F: r.any()})
	}
}

// A list that comes out is new memory.
func TestUsesIsNew(t *testing.T) {
	for _, op := range allOps() {
		x := api.Ir{Op: op, D: 1, A: 2, B: 3, T: 4, F: 5}
		l, _ := mir.Uses(x)
		l = l[:cap(l)]
		for i := range l {
			l[i] = -9
		}
		holdUses(t, x)
	}
}

func TestNextExamples(t *testing.T) {
	p := api.Mir{Regs: 1, L: []api.Ir{
		const0, jump(4), branch(api.MirIfGt, 0, 0, 5, 3), branch(api.MirIfSet, 0, 0, 4, 4), {Op: 33, T: 5, F: 5}, return0,
	}}
	for at, want := range map[int][]int{
		0: {1}, 1: {4}, 2: {5, 3}, 3: {4}, 4: nil, 5: nil, 6: nil, -1: nil, 9: nil,
		math.MaxInt: nil, math.MinInt: nil, 1 << 32: nil, 1<<32 + 1: nil,
	} {
		if l := mir.Next(p, at); !slices.Equal(l, want) {
			t.Errorf("Next of %d is %v, not %v", at, l, want)
		}
	}
	for _, at := range []int{0, 1, -1, math.MaxInt, math.MinInt} {
		if l := mir.Next(api.Mir{Regs: 1}, at); len(l) != 0 {
			t.Errorf("Next of %d of no program is %v", at, l)
		}
	}
	holdNext(t, p)
}

// Each operation at each place, and those that are none: its targets may be anywhere, also behind it, or where nothing is.
func TestNextOfTargets(t *testing.T) {
	for _, op := range append(ints(19), 3, 4, 7, 13, 14, 15, 16, 17, 18) {
		for _, n := range []int{1, 2, 5} {
			for at := range n {
				l := returns(n)
				for _, target := range ints(n, at) {
					for _, other := range ints(n, at) {
						l[at] = api.Ir{Op: api.MirOp(op), D: 99, A: -1, B: 5, K: 1, T: target, F: other}
						holdNext(t, api.Mir{Regs: -4, L: l})
					}
				}
			}
		}
	}
	l := returns(4)
	for _, c := range []struct {
		t, f int
		want []int
	}{
		{2, 3, []int{2, 3}}, {3, 2, []int{3, 2}}, {2, 2, []int{2}}, {4, 2, []int{2}}, {2, 4, []int{2}}, {4, 4, nil}, {-1, 3, []int{3}}, {3, -1, []int{3}},
		{0, 1, []int{0, 1}}, {1, 1, []int{1}}, {math.MinInt, math.MaxInt, nil}, {1 << 32, 3, []int{3}},
	} {
		l[1] = branch(api.MirIfGe, 0, 0, c.t, c.f)
		if got := mir.Next(api.Mir{Regs: 1, L: l}, 1); !slices.Equal(got, c.want) {
			t.Errorf("Next of a test to %d and %d is %v", c.t, c.f, got)
		}
		l[1] = api.Ir{Op: api.MirJump, T: c.t, F: 3}
		var want []int
		if c.t >= 0 && c.t < 4 {
			want = []int{c.t}
		}
		if got := mir.Next(api.Mir{Regs: 1, L: l}, 1); !slices.Equal(got, want) {
			t.Errorf("Next of a jump to %d is %v", c.t, got)
		}
	}
}

// Of programs of all shapes, right or not; nothing of them is changed, and what comes out is new.
func TestNextOfAllShapes(t *testing.T) {
	r := random(8)
	for range 20000 {
		p := r.mir(1+r.below(3), 1+r.below(10))
		if r.below(3) == 0 {
			p.L[r.below(len(p.L))] = api.Ir{Op: api.MirOp(r.below(24) - 2), T: r.below(14) - 2, F: r.below(14) - 2}
			p.Regs = r.any()
		}
		keep := slices.Clone(p.L[:cap(p.L)])
		holdNext(t, p)
		for at := range p.L {
			l := mir.Next(p, at)
			l = l[:cap(l)]
			for i := range l {
				l[i] = -1
			}
		}
		holdNext(t, p)
		if !slices.Equal(keep, p.L[:cap(p.L)]) {
			t.Fatalf("%+v is %+v now", keep, p.L[:cap(p.L)])
		}
	}
}

// A run goes by Next alone.
func TestRunGoesByNext(t *testing.T) {
	r := random(15)
	for range 3000 {
		p := r.mir(4, 2+r.below(12))
		data := r.data()
		full := run(p, data)
		at := 0
		for steps := 1; steps < full.steps; steps++ {
			to := -1
			for _, next := range mir.Next(p, at) {
				// A division by a register that nobody sets tells who comes there.
				cut := append(slices.Clone(p.L), return0)
				cut[next] = three(api.MirDiv, 4, 4, 4)
				if (run(api.Mir{Regs: 5, L: cut}, data) == outcome{0, steps, 8, next}) {
					to = next
				}
			}
			if to < 0 {
				t.Fatalf("a run of %s over %v goes from %d to none of %v", brief(p), data, at, mir.Next(p, at))
			}
			at = to
		}
	}
}
