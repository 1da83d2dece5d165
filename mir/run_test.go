package mir_test

import (
	"slices"
	"testing"

	"ravelin/api"
	"ravelin/mir"
)

// holdOutcome holds a run against the chapter, and against what it is known to be.
func holdOutcome(t *testing.T, p api.Mir, data []byte, want outcome) {
	t.Helper()
	if got := holdRun(t, p, data); got != want {
		t.Errorf("Run of %s over %v is %+v, not %+v", brief(p), data, got, want)
	}
}

func TestRunExamples(t *testing.T) {
	data := dataOf(5, 6)
	p := api.Mir{Regs: 2, L: []api.Ir{konst(0, 7), konst(1, 0), three(api.MirDiv, 0, 0, 1), return0}}
	holdOutcome(t, p, data, outcome{0, 2, api.ErrDivide, 2})
	p.L[1].K = 2
	holdOutcome(t, p, data, outcome{3, 4, api.OK, 0})
	// The data's word added.
	p = api.Mir{Regs: 2, L: []api.Ir{konst(0, 7), load(1, 0), three(api.MirAdd, 0, 0, 1), return0}}
	holdOutcome(t, p, data, outcome{12, 4, api.OK, 0})
	// All registers are 0 at first.
	for n := range 64 {
		holdOutcome(t, api.Mir{Regs: 64, L: []api.Ir{answer(n)}}, data, outcome{0, 1, api.OK, 0})
	}
	// Jumps leave out what they go over.
	p = api.Mir{Regs: 1, L: []api.Ir{jump(3), konst(0, 1), return0, branch(api.MirIfEq, 0, 0, 5, 4), konst(0, 2), return0}}
	holdOutcome(t, p, data, outcome{0, 3, api.OK, 0})
	p.L[3].Op = api.MirIfGt
	holdOutcome(t, p, data, outcome{2, 4, api.OK, 0})
}

// Each operation of two registers with words of all shapes, the one that is set being another one, or one of them.
func TestRunOfNumbers(t *testing.T) {
	for op := api.MirOp(2); op <= 13; op++ {
		if op == api.MirLoad {
			continue
		}
		for _, a := range edges() {
			for _, b := range edges() {
				for _, x := range []api.Ir{three(op, 2, 0, 1), three(op, 0, 0, 1), three(op, 1, 0, 1), three(op, 0, 1, 0), three(op, 0, 0, 0)} {
					p := api.Mir{Regs: 3, L: []api.Ir{load(0, 4), load(1, 60), x, answer(x.D)}}
					data := dataOf(0, a)
					copy(data[60:], dataOf(b)[:4])
					holdRun(t, p, data)
					p.L[0], p.L[1] = konst(0, a), konst(1, b)
					holdRun(t, p, nil)
					holdRun(t, p, data)
				}
			}
		}
	}
	for _, c := range []struct {
		op         api.MirOp
		a, b, want uint32
	}{
		{api.MirMove, 7, 9, 7}, {api.MirAdd, 0xffffffff, 2, 1}, {api.MirSub, 1, 2, 0xffffffff}, {api.MirMul, 0x10001, 0x10001, 0x20001},
		{api.MirDiv, 0xfffffffe, 3, 0x55555554}, {api.MirAnd, 12, 10, 8}, {api.MirOr, 12, 10, 14}, {api.MirXor, 12, 10, 6},
		{api.MirShl, 3, 33, 6}, {api.MirShl, 3, 31, 0x80000000}, {api.MirShr, 0x80000000, 63, 1}, {api.MirShr, 5, 32, 5}, {api.MirNeg, 1, 9, 0xffffffff}, {api.MirNeg, 0, 9, 0},
	} {
		p := api.Mir{Regs: 2, L: []api.Ir{konst(0, c.a), konst(1, c.b), three(c.op, 0, 0, 1), return0}}
		holdOutcome(t, p, dataOf(), outcome{c.want, 4, api.OK, 0})
	}
}

// Each test with words of all shapes.
func TestRunOfTests(t *testing.T) {
	for op := api.MirIfEq; op <= api.MirIfSet; op++ {
		for _, a := range edges() {
			for _, b := range edges() {
				for _, x := range []api.Ir{branch(op, 0, 1, 3, 4), branch(op, 1, 0, 4, 3), branch(op, 0, 0, 3, 4), branch(op, 0, 1, 4, 4)} {
					holdRun(t, api.Mir{Regs: 3, L: []api.Ir{load(0, 0), load(1, 4), x, konst(2, 1), answer(2)}}, dataOf(a, b))
				}
			}
		}
	}
	for _, c := range []struct {
		op   api.MirOp
		a, b uint32
		is   bool
	}{
		{api.MirIfEq, 5, 5, true}, {api.MirIfEq, 5, 6, false},
		{api.MirIfGt, 0x80000000, 1, true}, {api.MirIfGt, 5, 5, false}, {api.MirIfGt, 1, 0xffffffff, false},
		{api.MirIfGe, 0x80000000, 1, true}, {api.MirIfGe, 5, 5, true}, {api.MirIfGe, 4, 5, false},
		{api.MirIfSet, 6, 3, true}, {api.MirIfSet, 6, 9, false}, {api.MirIfSet, 0, 0, false}, {api.MirIfSet, 0xffffffff, 0x80000000, true},
	} {
		p := api.Mir{Regs: 2, L: []api.Ir{konst(0, c.a), konst(1, c.b), branch(c.op, 0, 1, 5, 3), konst(0, 8), return0, konst(0, 9), return0}}
		want := uint32(8)
		if c.is {
			want = 9
		}
		holdOutcome(t, p, dataOf(), outcome{want, 5, api.OK, 0})
	}
}

// Each word of the data, in each register; the others stay as they are.
func TestRunOfLoads(t *testing.T) {
	data := make([]byte, 64)
	for i := range data {
		data[i] = byte(3*i + 129)
	}
	for k := uint32(0); k < 64; k += 4 {
		want := uint32(data[k]) + uint32(data[k+1])<<8 + uint32(data[k+2])<<16 + uint32(data[k+3])<<24
		for d := range 64 {
			holdOutcome(t, api.Mir{Regs: 64, L: []api.Ir{load(d, k), answer(d)}}, data, outcome{want, 2, api.OK, 0})
			holdOutcome(t, api.Mir{Regs: 64, L: []api.Ir{load(d, k), answer(63 - d)}}, data, outcome{0, 2, api.OK, 0})
		}
	}
}

// A division by 0 ends all, wherever it stands, and whatever the register it would set.
func TestRunDividesByZero(t *testing.T) {
	for ahead := range 6 {
		for _, x := range []api.Ir{three(api.MirDiv, 0, 0, 1), three(api.MirDiv, 1, 0, 1), three(api.MirDiv, 2, 1, 1), three(api.MirDiv, 0, 1, 2)} {
			l := append(slices.Repeat([]api.Ir{konst(0, 9)}, ahead), x, return0)
			holdOutcome(t, api.Mir{Regs: 3, L: l}, dataOf(), outcome{0, ahead, api.ErrDivide, ahead})
			// One that nobody comes to does nothing.
			l = append([]api.Ir{jump(ahead + 2)}, l...)
			holdOutcome(t, api.Mir{Regs: 3, L: l}, dataOf(), outcome{0, 2, api.OK, 0})
		}
	}
	// Steps are counted, not places.
	p := api.Mir{Regs: 2, L: []api.Ir{jump(3), const0, const0, three(api.MirDiv, 0, 0, 1), return0}}
	holdOutcome(t, p, dataOf(), outcome{0, 1, api.ErrDivide, 3})
	p.L[3].A, p.L[3].B = 1, 0
	p.L = append([]api.Ir{load(0, 8)}, p.L...)
	p.L[1].T, p.L[4].D = 4, 1
	holdOutcome(t, p, dataOf(1, 1, 0), outcome{0, 2, api.ErrDivide, 4})
	holdOutcome(t, p, dataOf(0, 0, 1), outcome{1, 4, api.OK, 0})
}

// What is not right is told ahead of data that are not 64 bytes; nothing is done of either.
func TestRunRefuses(t *testing.T) {
	good := api.Mir{Regs: 1, L: []api.Ir{konst(0, 7), return0}}
	for n := range 200 {
		want := outcome{0, 0, api.ErrSecdataLen, 0}
		if n == 64 {
			want = outcome{7, 2, api.OK, 0}
		}
		holdOutcome(t, good, make([]byte, n), want)
	}
	holdOutcome(t, good, nil, outcome{0, 0, api.ErrSecdataLen, 0})
	for _, c := range []struct {
		p   api.Mir
		err api.Errno
		at  int
	}{
		{api.Mir{}, api.ErrMirRegs, 0},
		{api.Mir{Regs: 65, L: good.L}, api.ErrMirRegs, 0},
		{api.Mir{Regs: 1}, api.ErrMirLen, 0},
		{api.Mir{Regs: 1, L: returns(65537)}, api.ErrMirLen, 0},
		{api.Mir{Regs: 1, L: []api.Ir{return0, {}}}, api.ErrMirOp, 1},
		{api.Mir{Regs: 1, L: []api.Ir{return0, return0, answer(1)}}, api.ErrMirReg, 2},
		{api.Mir{Regs: 1, L: []api.Ir{konst(0, 1), load(0, 2), return0}}, api.ErrMirLoad, 1},
		{api.Mir{Regs: 1, L: []api.Ir{konst(0, 1), jump(1), return0}}, api.ErrMirTarget, 1},
		{api.Mir{Regs: 1, L: []api.Ir{konst(0, 1), konst(0, 1)}}, api.ErrMirEnd, 1},
	} {
		for _, data := range [][]byte{nil, make([]byte, 63), make([]byte, 64), make([]byte, 65)} {
			holdOutcome(t, c.p, data, outcome{0, 0, c.err, c.at})
		}
	}
}

// Fields that a row does not name don't count, whatever is in them.
func TestRunOfFieldsThatDontCount(t *testing.T) {
	r := random(21)
	for _, op := range allOps() {
		for range 300 {
			x := r.right(op, 3, 2, 8)
			p := api.Mir{Regs: 3, L: append([]api.Ir{load(0, 0), load(1, 4), x}, returns(5)...)}
			for i := range 5 {
				p.L[3+i].A = i % 3
			}
			bare := api.Mir{Regs: 3, L: slices.Clone(p.L)}
			bare.L[2] = api.Ir{Op: op}
			for f, n := range fieldsOf(x) {
				if names(op, f) {
					setField(&bare.L[2], f, n)
				}
			}
			if names(op, "K") || names(op, "W") {
				bare.L[2].K = x.K
			}
			data := r.data()
			if got, want := holdRun(t, p, data), holdRun(t, bare, data); got != want {
				t.Fatalf("Run of %+v is %+v, of %+v %+v", p, got, bare, want)
			}
		}
	}
}

// Programs that are right, and follow no other shape (P12.2).
func TestRunOfAllShapes(t *testing.T) {
	r := random(5)
	divided, answers := 0, map[uint32]int{}
	for range 20000 {
		p := r.mir([]int{1, 2, 4, 20, 64}[r.below(5)], 1+r.below(30))
		holdCheck(t, p)
		if err, at := mir.Check(p); err != 0 {
			t.Fatalf("%+v is not right: %d at %d", p, err, at)
		}
		for range 4 {
			got := holdRun(t, p, r.data())
			answers[got.answer]++
			if got.err != 0 {
				divided++
			}
		}
	}
	if divided < 2000 || len(answers) < 5000 {
		t.Errorf("%d runs divide by 0; there are %d answers", divided, len(answers))
	}
}

// As many instructions as there may be: all of them done, some gone over, and such as follow no shape.
func TestRunOfLongPrograms(t *testing.T) {
	l := slices.Repeat([]api.Ir{three(api.MirAdd, 0, 0, 1)}, 65536)
	l[0], l[65535] = konst(1, 3), return0
	holdOutcome(t, api.Mir{Regs: 2, L: l}, dataOf(), outcome{3 * 65534, 65536, api.OK, 0})
	l[65534] = three(api.MirDiv, 0, 0, 2)
	holdOutcome(t, api.Mir{Regs: 3, L: l}, dataOf(), outcome{0, 65534, api.ErrDivide, 65534})
	l[1] = jump(65535)
	holdOutcome(t, api.Mir{Regs: 3, L: l}, dataOf(), outcome{0, 3, api.OK, 0})
	r := random(77)
	for range 12 {
		p := r.mir(1+r.below(64), 65536)
		for at, x := range p.L[:65535] {
			if x.Op == api.MirReturn || x.Op == api.MirDiv {
				p.L[at].Op, p.L[at].D, p.L[at].A, p.L[at].B = api.MirSub, r.below(p.Regs), r.below(p.Regs), r.below(p.Regs)
			}
		}
		if got := holdRun(t, p, r.data()); got.steps < 10000 || got.err != 0 {
			t.Errorf("a long run is %+v", got)
		}
	}
}

// Neither program nor data are changed, nor their spare room, nor kept.
func TestRunChangesAndKeepsNothing(t *testing.T) {
	r := random(31)
	for range 2000 {
		p := r.mir(4, 1+r.below(12))
		data := slices.Grow(r.data(), 8)
		l, b := slices.Clone(p.L[:cap(p.L)]), slices.Clone(data[:cap(data)])
		first := holdRun(t, p, data)
		other := holdRun(t, p, r.data())
		if second := holdRun(t, p, data); first != second {
			t.Fatalf("Run of %+v is %+v, then %+v (%+v over others)", p, first, second, other)
		}
		if !slices.Equal(l, p.L[:cap(p.L)]) || !slices.Equal(b, data[:cap(data)]) {
			t.Fatalf("%+v is changed, or its data", p)
		}
	}
}
