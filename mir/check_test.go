package mir_test

import (
	"math"
	"slices"
	"testing"

	"ravelin/api"
	"ravelin/mir"
)

// The instructions of the tables below.
var (
	return0 = api.Ir{Op: api.MirReturn}
	const0  = api.Ir{Op: api.MirConst}
)

func konst(d int, k uint32) api.Ir           { return api.Ir{Op: api.MirConst, D: d, K: k} }
func load(d int, k uint32) api.Ir            { return api.Ir{Op: api.MirLoad, D: d, K: k} }
func three(op api.MirOp, d, a, b int) api.Ir { return api.Ir{Op: op, D: d, A: a, B: b} }
func answer(a int) api.Ir                    { return api.Ir{Op: api.MirReturn, A: a} }
func jump(t int) api.Ir                      { return api.Ir{Op: api.MirJump, T: t} }
func branch(op api.MirOp, a, b, t, f int) api.Ir {
	return api.Ir{Op: op, A: a, B: b, T: t, F: f}
}

// returns are n instructions that return.
func returns(n int) []api.Ir { return slices.Repeat([]api.Ir{return0}, n) }

// allOps are the chapter's operations, by their numbers.
func allOps() []api.MirOp {
	var l []api.MirOp
	for op := api.MirOp(1); op <= 19; op++ {
		l = append(l, op)
	}
	return l
}

func TestCheckExamples(t *testing.T) {
	for _, c := range []struct {
		regs int
		l    []api.Ir
		err  api.Errno
		at   int
	}{
		{2, []api.Ir{konst(0, 7), konst(1, 0), three(api.MirDiv, 0, 0, 1), return0}, api.OK, 0},
		{2, []api.Ir{jump(0)}, api.ErrMirTarget, 0},
		{2, []api.Ir{answer(9)}, api.ErrMirReg, 0},
		{2, []api.Ir{konst(0, 1)}, api.ErrMirEnd, 0},
		{1, []api.Ir{return0}, api.OK, 0},
		{0, []api.Ir{return0}, api.ErrMirRegs, 0},
		{65, []api.Ir{return0}, api.ErrMirRegs, 0},
		{0, nil, api.ErrMirRegs, 0},
		{1, nil, api.ErrMirLen, 0},
		{1, []api.Ir{}, api.ErrMirLen, 0},
		{1, []api.Ir{return0, {}}, api.ErrMirOp, 1},
		{1, []api.Ir{return0, {Op: 20}}, api.ErrMirOp, 1},
		{1, []api.Ir{return0, konst(-1, 0), return0}, api.ErrMirReg, 1},
		{1, []api.Ir{return0, load(0, 62), return0}, api.ErrMirLoad, 1},
		{1, []api.Ir{return0, load(0, 64), return0}, api.ErrMirLoad, 1},
		{1, []api.Ir{return0, load(0, 60), return0}, api.OK, 0},
		{1, []api.Ir{return0, jump(1), return0}, api.ErrMirTarget, 1},
		{1, []api.Ir{return0, jump(3), return0}, api.ErrMirTarget, 1},
		{1, []api.Ir{return0, jump(2), return0}, api.OK, 0},
		{1, []api.Ir{return0, branch(api.MirIfEq, 0, 0, 2, 1), return0}, api.ErrMirTarget, 1},
		{1, []api.Ir{return0, return0, konst(0, 0)}, api.ErrMirEnd, 2},
		{1, []api.Ir{return0, return0, jump(3)}, api.ErrMirTarget, 2},
	} {
		p := api.Mir{Regs: c.regs, L: c.l}
		if err, at := mir.Check(p); err != c.err || at != c.at {
			t.Errorf("Check of %+v is %d at %d, not %d at %d", p, err, at, c.err, c.at)
		}
		holdCheck(t, p)
	}
}

// So many registers, whatever else is wrong.
func TestCheckOfRegs(t *testing.T) {
	for _, n := range ints() {
		for _, l := range [][]api.Ir{nil, returns(1), returns(3), {{}}, {const0}, {answer(63)}, {answer(62), return0}, returns(65537)} {
			p := api.Mir{Regs: n, L: l}
			holdCheck(t, p)
			if err, at := mir.Check(p); (n < 1 || n > 64) && (err != api.ErrMirRegs || at != 0) || n >= 1 && n <= 64 && err == api.ErrMirRegs {
				t.Errorf("Check of %d registers is %d at %d", n, err, at)
			}
		}
	}
}

// So many instructions, whatever is wrong of these.
func TestCheckOfLengths(t *testing.T) {
	for _, n := range []int{0, 1, 2, 100, 4096, 65535, 65536, 65537, 65538, 1 << 17, 1 << 20} {
		for _, first := range []api.Ir{return0, {}, answer(64)} {
			l := returns(n)
			if n > 0 {
				l[0] = first
			}
			want := api.ErrMirLen
			if n >= 1 && n <= 65536 {
				want = map[api.Ir]api.Errno{return0: api.OK, {}: api.ErrMirOp, answer(64): api.ErrMirReg}[first]
			}
			if err, at := mir.Check(api.Mir{Regs: 64, L: l}); err != want || at != 0 {
				t.Errorf("Check of %d instructions is %d at %d, not %d", n, err, at, want)
			}
		}
	}
	// The last of as many as there may be.
	l := append(returns(65535), const0)
	if err, at := mir.Check(api.Mir{Regs: 1, L: l}); err != api.ErrMirEnd || at != 65535 {
		t.Errorf("Check of 65536 without an end is %d at %d", err, at)
	}
	l[0] = jump(65535)
	l[65535] = return0
	if err, at := mir.Check(api.Mir{Regs: 1, L: l}); err != api.OK || at != 0 {
		t.Errorf("Check of a jump over all is %d at %d", err, at)
	}
	l[65535] = api.Ir{Op: 20}
	if err, at := mir.Check(api.Mir{Regs: 1, L: l}); err != api.ErrMirOp || at != 65535 {
		t.Errorf("Check of 65536 with a wrong one is %d at %d", err, at)
	}
}

// Operations that there are, and those next to them and far away.
func TestCheckOfOps(t *testing.T) {
	for _, n := range append(ints(19, 32, 256), 3, 4, 5, 1<<32+1, 1<<32+19, -19) {
		op := api.MirOp(n)
		for _, fields := range []api.Ir{{}, {K: 4, T: 2, F: 2}, {K: 62, T: 2, F: 2}, {D: 9, A: 9, B: 9, K: 62, T: 9, F: 9}, {D: -1, A: -1, B: -1}} {
			x := fields
			x.Op = op
			holdCheck(t, api.Mir{Regs: 2, L: []api.Ir{return0, x, return0}})
			holdCheck(t, api.Mir{Regs: 2, L: []api.Ir{x, return0, return0}})
			holdCheck(t, api.Mir{Regs: 2, L: []api.Ir{return0, x}})
			err, _ := mir.Check(api.Mir{Regs: 2, L: []api.Ir{x, return0, return0}})
			if (err == api.ErrMirOp) != (n < 1 || n > 19) {
				t.Errorf("Check of the operation %d is %d", n, err)
			}
		}
	}
}

// setField sets a field by its letter.
func setField(x *api.Ir, f string, n int) {
	switch f {
	case "D":
		x.D = n
	case "A":
		x.A = n
	case "B":
		x.B = n
	case "T":
		x.T = n
	case "F":
		x.F = n
	}
}

// Each field of each operation with numbers of all shapes, the others being right: it counts just where its row names it.
func TestCheckOfFields(t *testing.T) {
	for _, op := range allOps() {
		for _, regs := range []int{1, 2, 7, 63, 64} {
			for _, at := range []int{0, 3, 8} {
				for _, f := range []string{"D", "A", "B", "T", "F"} {
					for _, n := range ints(regs, at, 10) {
						l := returns(10)
						l[at] = api.Ir{Op: op, K: 60, T: 9, F: 9}
						setField(&l[at], f, n)
						p := api.Mir{Regs: regs, L: l}
						holdCheck(t, p)
						if err, _ := mir.Check(p); !names(op, f) && err != api.OK {
							t.Fatalf("Check of %+v is %d", p, err)
						}
					}
				}
			}
		}
	}
}

// K counts of a load alone.
func TestCheckOfK(t *testing.T) {
	l := append(edges(), 0x80000004, 0x80000000, 0xfffffffc, 0xffffffc4, 1<<30, 1<<16+4, 68, 72)
	for k := range uint32(80) {
		l = append(l, k)
	}
	for _, op := range allOps() {
		for _, k := range l {
			p := api.Mir{Regs: 1, L: []api.Ir{{Op: op, K: k, T: 1, F: 1}, return0}}
			holdCheck(t, p)
			want := api.OK
			if op == api.MirLoad && (k > 60 || k%4 != 0) {
				want = api.ErrMirLoad
			}
			if err, at := mir.Check(p); err != want || at != 0 {
				t.Errorf("Check of %+v is %d at %d", p, err, at)
			}
		}
	}
}

// Of one instruction the first of what is wrong is told; of more, that of the first one.
func TestCheckTellsTheFirst(t *testing.T) {
	noOp := api.Ir{Op: 0, D: -1, A: 64, K: 62, T: -1, F: -1}
	noLoadReg := load(-1, 62)
	noLoad := load(0, 62)
	noTargetReg := branch(api.MirIfSet, 0, 64, 0, 0)
	noTarget := branch(api.MirIfGe, 0, 1, 4, 0)
	all := []struct {
		x   api.Ir
		err api.Errno
	}{{noOp, 123}, {noLoadReg, 124}, {noLoad, 125}, {noTargetReg, 124}, {noTarget, 126}}
	for _, first := range all {
		for _, second := range append(all, all[0]) {
			for at := range 3 {
				for behind := at + 1; behind < 4; behind++ {
					l := returns(4)
					l[at], l[behind] = first.x, second.x
					p := api.Mir{Regs: 64, L: l}
					holdCheck(t, p)
					if err, place := mir.Check(p); err != first.err || place != at {
						t.Errorf("Check of %+v is %d at %d", p, err, place)
					}
				}
			}
		}
		p := api.Mir{Regs: 64, L: []api.Ir{return0, first.x, const0}}
		if err, at := mir.Check(p); err != first.err || at != 1 {
			t.Errorf("Check of %+v is %d at %d", p, err, at)
		}
	}
}

// The last one returns; what else is wrong of it is told first.
func TestCheckOfEnds(t *testing.T) {
	for _, op := range allOps() {
		for _, n := range []int{1, 2, 5} {
			for _, target := range []int{0, n - 1, n} {
				l := returns(n)
				l[n-1] = api.Ir{Op: op, T: target, F: target}
				p := api.Mir{Regs: 1, L: l}
				holdCheck(t, p)
				err, at := mir.Check(p)
				switch {
				case op == 19 && (err != api.OK || at != 0), op < 14 && (err != api.ErrMirEnd || at != n-1), op >= 14 && op < 19 && (err != api.ErrMirTarget || at != n-1):
					t.Errorf("Check of %+v is %d at %d", p, err, at)
				}
			}
		}
	}
}

// Programs that follow no shape, right ones and those with one field, or a length, or a number of registers, that is any.
func TestCheckOfAllShapes(t *testing.T) {
	r := random(12)
	seen := map[api.Errno]int{}
	for range 60000 {
		p := r.mir(1+r.below(64), 1+r.below(12))
		x := &p.L[r.below(len(p.L))]
		switch r.below(7) {
		case 0:
			x.Op = api.MirOp(r.below(24) - 2)
		case 1:
			setField(x, []string{"D", "A", "B", "T", "F"}[r.below(5)], r.any())
		case 2:
			*x = api.Ir{Op: api.MirOp(r.below(20)), D: r.below(66) - 1, A: r.below(66) - 1, B: r.below(66) - 1, K: uint32(r.below(70)), T: r.below(14) - 1, F: r.below(14) - 1}
		case 3:
			x.K = r.word()
		case 4:
			p.L = p.L[:r.below(len(p.L)+1)]
		case 5:
			p.Regs = r.below(70) - 2
		}
		holdCheck(t, p)
		err, _ := mir.Check(p)
		seen[err]++
	}
	for _, err := range []api.Errno{0, 121, 122, 123, 124, 125, 126, 127} {
		if seen[err] < 200 {
			t.Errorf("%d was told %d times alone", err, seen[err])
		}
	}
}

// What is handed in stays as it is, what lies in its spare room does not count, and each call is the same again.
func TestCheckChangesAndKeepsNothing(t *testing.T) {
	all := []api.Ir{jump(2), load(0, 8), branch(api.MirIfEq, 0, 1, 3, 3), return0, {Op: 77, D: math.MinInt}, return0}
	old := slices.Clone(all)
	for range 3 {
		for n := range len(all) + 1 {
			holdCheck(t, api.Mir{Regs: 2, L: all[:n]})
			holdCheck(t, api.Mir{Regs: 2, L: all[n:]})
		}
		if !slices.Equal(all, old) {
			t.Fatalf("a program is changed, or its spare room: %+v", all)
		}
	}
}
