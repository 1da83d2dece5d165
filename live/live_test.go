package live_test

import (
	"math"
	"slices"
	"strconv"
	"strings"
	"testing"

	"ravelin/api"
	"ravelin/live"
)

// told are lists of registers, written as such: "01 1" are r0 and r1, then r1, and - is none.
func told(out [][]bool) string {
	var l []string
	for _, row := range out {
		s := ""
		for reg, is := range row {
			if is {
				s += strconv.Itoa(reg)
			}
		}
		l = append(l, s+"-"[min(len(s), 1):])
	}
	return strings.Join(l, " ")
}

func TestLiveExamples(t *testing.T) {
	p := example()
	hold(t, p)
	out, err := live.Out(p)
	if err != 0 || len(out) != 4 || !slices.Equal(out[0], []bool{true, false}) || !slices.Equal(out[1], []bool{true, true}) || !slices.Equal(out[2], []bool{true, false}) || !slices.Equal(out[3], []bool{false, false}) {
		t.Errorf("Out is %v, %d", out, err)
	}
	if l, err := live.Spans(p); err != 0 || !slices.Equal(l, []live.Span{{Reg: 0, From: 0, To: 3}, {Reg: 1, From: 1, To: 2}}) {
		t.Errorf("Spans is %v, %d", l, err)
	}
	if n, err := live.Most(p); n != 2 || err != 0 {
		t.Errorf("Most is %d, %d", n, err)
	}
}

// Where a register lives, one case behind the other.
func TestWhereRegistersLive(t *testing.T) {
	for _, c := range []struct {
		name  string
		regs  int
		l     []api.Ir
		out   string
		spans []live.Span
		most  int
	}{
		{"one", 1, []api.Ir{answer(0)}, "-", []live.Span{{0, 0, 0}}, 0},
		{"what nobody names has no span", 4, []api.Ir{answer(2)}, "-", []live.Span{{2, 0, 0}}, 0},
		{"set in vain", 2, []api.Ir{konst(0, 1), konst(1, 1), answer(1)}, "- 1 -", []live.Span{{0, 0, 0}, {1, 1, 2}}, 1},
		{"asked for at first", 2, []api.Ir{konst(1, 1), konst(1, 2), answer(0)}, "0 0 -", []live.Span{{0, 0, 2}, {1, 0, 1}}, 1},
		{"asked for at first, and by the first one alone", 2, []api.Ir{move(1, 0), konst(0, 0), answer(1)}, "1 1 -", []live.Span{{0, 0, 1}, {1, 0, 2}}, 1},
		{"set again ahead of its use", 1, []api.Ir{konst(0, 1), konst(0, 2), answer(0)}, "- 0 -", []live.Span{{0, 0, 2}}, 1},
		{"who sets it uses it", 1, []api.Ir{konst(0, 1), {Op: api.MirNeg}, answer(0)}, "0 0 -", []live.Span{{0, 0, 2}}, 1},
		{"who sets it uses it twice, at first", 1, []api.Ir{three(api.MirXor, 0, 0, 0), answer(0)}, "0 -", []live.Span{{0, 0, 1}}, 1},
		{"a move to itself", 1, []api.Ir{move(0, 0), answer(0)}, "0 -", []live.Span{{0, 0, 1}}, 1},
		{"set behind its last use", 2, []api.Ir{load(0, 0), move(1, 0), konst(0, 0), answer(1)}, "0 1 1 -", []live.Span{{0, 0, 2}, {1, 1, 3}}, 1},
		{"a hole", 2, []api.Ir{konst(0, 0), move(1, 0), konst(0, 1), three(api.MirAdd, 0, 0, 1), answer(0)}, "0 1 01 0 -", []live.Span{{0, 0, 4}, {1, 1, 3}}, 2},
		{"over what sets it", 1, []api.Ir{jump(2), konst(0, 1), answer(0)}, "0 0 -", []live.Span{{0, 0, 2}}, 1},
		{"over what uses it", 2, []api.Ir{jump(2), answer(1), answer(0)}, "0 - -", []live.Span{{0, 0, 2}, {1, 1, 1}}, 1},
		{"what nobody comes to has ways too", 3, []api.Ir{answer(0), konst(1, 1), load(2, 4), three(api.MirSub, 1, 1, 2), answer(1)}, "- 1 12 1 -", []live.Span{{0, 0, 0}, {1, 1, 4}, {2, 2, 3}}, 2},
		{"an end ends it", 2, []api.Ir{konst(1, 1), answer(0), answer(1)}, "0 - -", []live.Span{{0, 0, 1}, {1, 0, 2}}, 1},
		{"two ways, two registers", 4, []api.Ir{branch(api.MirIfEq, 0, 1, 2, 1), answer(2), answer(3)}, "23 - -", []live.Span{{0, 0, 0}, {1, 0, 0}, {2, 0, 1}, {3, 0, 2}}, 2},
		{"one way sets it", 2, []api.Ir{branch(api.MirIfGt, 1, 1, 1, 2), konst(0, 1), answer(0)}, "0 0 -", []live.Span{{0, 0, 2}, {1, 0, 0}}, 1},
		{"the other way sets it", 2, []api.Ir{branch(api.MirIfGe, 1, 1, 2, 1), konst(0, 1), answer(0)}, "0 0 -", []live.Span{{0, 0, 2}, {1, 0, 0}}, 1},
		{"both ways set it", 2, []api.Ir{branch(api.MirIfSet, 0, 0, 1, 3), konst(1, 1), jump(4), load(1, 0), answer(1)}, "- 1 1 1 -", []live.Span{{0, 0, 0}, {1, 1, 4}}, 1},
		{"both ways are one", 2, []api.Ir{konst(0, 1), branch(api.MirIfEq, 1, 1, 3, 3), konst(0, 2), answer(0)}, "01 0 0 -", []live.Span{{0, 0, 3}, {1, 0, 1}}, 2},
		{"one way far", 3, []api.Ir{load(0, 0), branch(api.MirIfEq, 1, 1, 4, 2), move(2, 1), answer(2), answer(0)}, "01 01 2 - -", []live.Span{{0, 0, 4}, {1, 0, 2}, {2, 2, 3}}, 2},
		{"fields that a row does not name", 2, []api.Ir{{Op: api.MirJump, D: 1, A: 1, B: 1, T: 1, F: 1}, {Op: api.MirConst, D: 0, A: 1, B: 1, T: 3, F: 3}, {Op: api.MirMove, D: 0, A: 0, B: 1}, {Op: api.MirReturn, D: 1, A: 0, B: 1}}, "- 0 0 -", []live.Span{{0, 1, 3}}, 1},
		{"a division that nobody asks for", 4, []api.Ir{three(api.MirDiv, 0, 1, 2), answer(3)}, "3 -", []live.Span{{0, 0, 0}, {1, 0, 0}, {2, 0, 0}, {3, 0, 1}}, 1},
		{"by From, then by register", 4, []api.Ir{load(3, 0), load(1, 0), branch(api.MirIfEq, 0, 3, 3, 4), answer(2), answer(1)}, "023 0123 12 - -", []live.Span{{0, 0, 2}, {2, 0, 3}, {3, 0, 2}, {1, 1, 4}}, 4},
	} {
		p := api.Mir{Regs: c.regs, L: c.l}
		hold(t, p)
		if out, _ := live.Out(p); told(out) != c.out {
			t.Errorf("%s: Out is %s, not %s", c.name, told(out), c.out)
		}
		if l, _ := live.Spans(p); !slices.Equal(l, c.spans) {
			t.Errorf("%s: Spans is %v, not %v", c.name, l, c.spans)
		}
		if n, _ := live.Most(p); n != c.most {
			t.Errorf("%s: Most is %d, not %d", c.name, n, c.most)
		}
	}
}

// Each operation: what it uses is asked for ahead of it, what it sets is not, and fields that its row does not name don't count.
func TestEachOperation(t *testing.T) {
	const regs, use, other, set = 64, 61, 17, 63
	for op := api.MirOp(1); op <= 19; op++ {
		x := api.Ir{Op: op, D: set, A: use, B: other, K: 60, T: 2, F: 3}
		p := api.Mir{Regs: regs, L: []api.Ir{konst(5, 1), x, answer(set), answer(set)}}
		hold(t, p)
		out, _ := live.Out(p)
		for reg, is := range out[0] {
			want := reg == use && names(op, "A") || reg == other && names(op, "B") || reg == set && names(op, "T")
			if is != want {
				t.Errorf("ahead of operation %d r%d is asked for: %t", op, reg, is)
			}
		}
		if out[1][set] != (op != 19) || slices.Contains(out[1][:set], true) {
			t.Errorf("behind operation %d: %s", op, told(out[1:2]))
		}
	}
}

// Of what is not right nothing is told, wherever what is wrong stands.
func TestRefused(t *testing.T) {
	full := slices.Repeat([]api.Ir{answer(0)}, 65537)
	for _, p := range []api.Mir{
		{}, {Regs: 1}, {Regs: 1, L: []api.Ir{}}, {Regs: 64, L: full}, {Regs: 0, L: full},
		{Regs: 0, L: full[:1]}, {Regs: -1, L: full[:1]}, {Regs: 65, L: full[:1]},
		{Regs: math.MinInt, L: full[:1]}, {Regs: math.MaxInt, L: full[:1]}, {Regs: 1<<32 + 1, L: full[:1]},
		{Regs: 1, L: []api.Ir{{}, answer(0)}},
		{Regs: 1, L: []api.Ir{answer(0), {Op: 20}, answer(0)}},
		{Regs: 1, L: []api.Ir{{Op: -1}, answer(0)}},
		{Regs: 1, L: []api.Ir{answer(1)}},
		{Regs: 64, L: []api.Ir{answer(64)}},
		{Regs: 64, L: []api.Ir{answer(-1)}},
		{Regs: 2, L: []api.Ir{konst(2, 0), answer(0)}},
		{Regs: 2, L: []api.Ir{answer(0), move(math.MinInt, 0), answer(0)}},
		{Regs: 2, L: []api.Ir{three(api.MirAdd, 0, 0, math.MaxInt), answer(0)}},
		{Regs: 1, L: []api.Ir{load(0, 62), answer(0)}},
		{Regs: 1, L: []api.Ir{load(0, 64), answer(0)}},
		{Regs: 1, L: []api.Ir{jump(0), answer(0)}},
		{Regs: 1, L: []api.Ir{jump(2), answer(0)}},
		{Regs: 1, L: []api.Ir{jump(math.MinInt), answer(0)}},
		{Regs: 1, L: []api.Ir{branch(api.MirIfEq, 0, 0, 1, 0), answer(0)}},
		{Regs: 1, L: []api.Ir{branch(api.MirIfEq, 0, 0, math.MaxInt, 1), answer(0)}},
		{Regs: 2, L: []api.Ir{konst(0, 1)}},
		{Regs: 2, L: []api.Ir{answer(0), konst(0, 1)}},
		{Regs: 2, L: []api.Ir{answer(0), branch(api.MirIfEq, 0, 0, 1, 2)}},
	} {
		holdRefused(t, p)
	}
	holdMany(t, api.Mir{Regs: 64, L: full[:65536]})
}

// Right ones of which one field is made anything: they are refused, or held as they are.
func TestOneFieldWrong(t *testing.T) {
	r := random(41)
	refused := 0
	for range 20000 {
		p := r.mir(1+r.below(64), 1+r.below(10), shape{far: 4, jumps: 4, ends: 1})
		x := &p.L[r.below(len(p.L))]
		switch r.below(8) {
		case 0:
			x.Op = api.MirOp(r.any())
		case 1:
			x.D = r.any()
		case 2:
			x.A = r.any()
		case 3:
			x.B = r.any()
		case 4:
			x.T = r.any()
		case 5:
			x.F = r.any()
		case 6:
			x.K = r.next()
		case 7:
			p.Regs = r.any()
		}
		if isRight(p) {
			hold(t, p)
		} else {
			holdRefused(t, p)
			refused++
		}
	}
	if refused < 3000 {
		t.Errorf("%d are refused", refused)
	}
}
