package alloc_test

import (
	"math"
	"slices"
	"testing"

	"ravelin/alloc"
	"ravelin/api"
	"ravelin/mir"
)

func homes(h ...api.Home) []api.Home { return h }

// Which registers conflict: all pairs of a few are tried, one case behind the other.
func TestWhichConflict(t *testing.T) {
	for _, c := range []struct {
		name  string
		regs  int
		l     []api.Ir
		pairs [][2]int
	}{
		{"both are asked for behind one", 2, example().L, [][2]int{{0, 1}}},
		{"one alone", 1, []api.Ir{answer(0)}, nil},
		{"nobody names the others", 4, []api.Ir{answer(2)}, nil},
		{"both at first, by the first one alone", 2, []api.Ir{three(api.MirAdd, 0, 0, 1), answer(0)}, [][2]int{{0, 1}}},
		{"both at first, and one is set by the first one", 2, []api.Ir{move(0, 0), three(api.MirSub, 0, 0, 1), answer(0)}, [][2]int{{0, 1}}},
		{"both at first, on ways apart", 4, []api.Ir{branch(api.MirIfEq, 3, 3, 1, 2), answer(0), answer(1)}, [][2]int{{0, 1}, {0, 3}, {1, 3}}},
		{"one at first, the other set where that ends", 2, []api.Ir{move(1, 0), answer(1)}, nil},
		{"one at first, the other set while it is asked for", 2, []api.Ir{konst(1, 1), three(api.MirAdd, 0, 0, 1), answer(0)}, [][2]int{{0, 1}}},
		{"set by the first one, so not asked for at first", 3, []api.Ir{konst(0, 1), three(api.MirAdd, 1, 0, 2), answer(1)}, [][2]int{{0, 2}}},
		{"set in vain while the other is asked for", 2, []api.Ir{konst(1, 1), konst(0, 1), answer(1)}, [][2]int{{0, 1}}},
		{"set in vain while none is asked for", 2, []api.Ir{konst(0, 1), konst(1, 1), answer(1)}, nil},
		{"set in vain by a move of the other", 2, []api.Ir{konst(0, 1), move(1, 0), answer(0)}, [][2]int{{0, 1}}},
		{"a move, the other not asked for any more", 2, []api.Ir{konst(0, 1), move(1, 0), answer(1)}, nil},
		{"a move to itself", 2, []api.Ir{konst(0, 1), move(0, 0), konst(1, 1), answer(1)}, nil},
		{"one ends where the other begins", 3, []api.Ir{konst(0, 1), konst(1, 2), three(api.MirAdd, 2, 0, 1), answer(2)}, [][2]int{{0, 1}}},
		{"in a hole of the other", 2, []api.Ir{konst(0, 1), move(1, 0), konst(0, 2), answer(0)}, nil},
		{"over the hole of the other", 2, []api.Ir{konst(0, 1), move(1, 0), konst(0, 2), three(api.MirAdd, 0, 0, 1), answer(0)}, [][2]int{{0, 1}}},
		{"on ways apart", 4, []api.Ir{branch(api.MirIfEq, 2, 2, 1, 3), konst(0, 1), answer(0), konst(1, 1), answer(1)}, nil},
		{"on one way alone", 4, []api.Ir{branch(api.MirIfEq, 2, 2, 1, 3), konst(0, 1), answer(0), konst(1, 1), konst(0, 1), three(api.MirOr, 0, 0, 1), answer(0)}, [][2]int{{0, 1}}},
		{"where nobody comes to", 2, []api.Ir{jump(4), konst(0, 1), konst(1, 1), three(api.MirOr, 0, 0, 1), answer(0)}, [][2]int{{0, 1}}},
		{"fields that a row does not name", 3, []api.Ir{{Op: api.MirConst, D: 0, A: 1, B: 2}, {Op: api.MirReturn, D: 1, B: 2}}, nil},
		{"a hidden one set over a jump", 2, []api.Ir{konst(0, 1), jump(3), konst(1, 1), answer(0)}, [][2]int{{0, 1}}},
		{"a division that nobody asks for", 4, []api.Ir{konst(1, 1), konst(2, 1), konst(3, 1), three(api.MirDiv, 0, 1, 2), answer(3)}, [][2]int{{0, 3}, {1, 2}, {1, 3}, {2, 3}}},
	} {
		p := api.Mir{Regs: c.regs, L: c.l}
		a := newAccount(p)
		for reg := range c.regs {
			for lower := range reg {
				h := homes(register(0), register(1), register(2), register(3))[:c.regs]
				h[reg] = h[lower]
				want, wantAt := api.OK, 0
				if slices.Contains(c.pairs, [2]int{lower, reg}) {
					want, wantAt = api.ErrAllocShare, reg
				}
				if err, at := holdCheck(t, p, a, h, 4); err != want || at != wantAt {
					t.Errorf("%s: Check with r%d and r%d in one home is %d at %d", c.name, lower, reg, err, at)
				}
			}
		}
	}
}

// all64 is a Mir of whose registers all conflict.
func all64() api.Mir {
	var l []api.Ir
	for reg := range 64 {
		l = append(l, three(api.MirAdd, 0, 0, reg))
	}
	return api.Mir{Regs: 64, L: append(l, answer(0))}
}

// Homes at the edges of what there is, one case behind the other.
func TestWhichHomesMayBe(t *testing.T) {
	p := api.Mir{Regs: 3, L: []api.Ir{three(api.MirAdd, 0, 0, 1), three(api.MirAdd, 0, 0, 2), answer(0)}}
	c := newAccount(p)
	ok := homes(register(0), register(1), slot(0))
	for _, x := range []struct {
		name string
		h    []api.Home
		regs int
		err  api.Errno
		at   int
	}{
		{"they hold", ok, 2, 0, 0},
		{"more machine registers than needed", ok, 32, 0, 0},
		{"the last machine register", homes(register(31), register(30), register(0)), 32, 0, 0},
		{"the last slot", homes(slot(63), slot(0), register(0)), 1, 0, 0},
		{"a machine register and a slot of one number", homes(register(1), slot(1), slot(2)), 2, 0, 0},
		{"no machine registers", homes(slot(2), slot(0), slot(1)), 0, 0, 0},
		{"too few machine registers", ok, 1, 142, 1},
		{"none of them", ok, 0, 142, 0},
		{"one below none", ok, -1, 1, 0},
		{"one too many", ok, 33, 1, 0},
		{"far below", ok, math.MinInt, 1, 0},
		{"far above", ok, math.MaxInt, 1, 0},
		{"behind the last machine register", homes(register(0), register(1), register(32)), 32, 142, 2},
		{"behind the last slot", homes(slot(64), slot(1), slot(2)), 32, 142, 0},
		{"as many slots as machine registers there are not", homes(slot(40), slot(1), register(33)), 32, 142, 2},
		{"no slot below 0", homes(slot(0), slot(-1), slot(2)), 32, 142, 1},
		{"no machine register below 0", homes(slot(0), slot(1), register(-1)), 32, 142, 2},
		{"the greatest numbers", homes(slot(0), slot(math.MaxInt), register(math.MaxInt)), 32, 142, 1},
		{"the smallest numbers", homes(slot(0), register(math.MinInt), slot(math.MinInt)), 32, 142, 1},
		{"numbers that are right in 32 bits", homes(slot(0), slot(1), register(1<<32)), 32, 142, 2},
		{"one too few", ok[:2], 32, 141, 0},
		{"one more", slices.Concat(ok, ok[:1]), 32, 141, 0},
		{"none", nil, 32, 141, 0},
		{"far more", slices.Repeat(ok, 40000), 32, 141, 0},
		{"two share", homes(register(0), register(1), register(1)), 2, 143, 2},
		{"two share a slot", homes(slot(5), slot(5), register(1)), 2, 143, 1},
		{"all share", homes(slot(5), slot(5), slot(5)), 2, 143, 1},
		{"wrong number of them, no such home, shared", homes(register(-1), register(-1)), 32, 141, 0},
		{"no such home behind shared ones", homes(register(0), register(0), register(32)), 32, 142, 2},
		{"shared, and no such home", homes(register(5), register(5), register(1)), 4, 142, 0},
		{"all is wrong", homes(register(5)), 33, 1, 0},
	} {
		err, at := holdCheck(t, p, c, x.h, x.regs)
		if err != x.err || at != x.at {
			t.Errorf("%s: %d at %d, not %d at %d", x.name, err, at, x.err, x.at)
		}
	}
}

// Of 64 registers that all conflict, each two are seen, in slots and in machine registers.
func TestEachTwoConflict(t *testing.T) {
	p := all64()
	c := newAccount(p)
	h := make([]api.Home, 64)
	for reg := range h {
		h[reg] = api.Home{Slot: reg >= 32, N: reg}
	}
	if err, at := holdCheck(t, p, c, h, 32); err != 0 {
		t.Fatalf("apart they are %d at %d", err, at)
	}
	for reg := range h {
		for lower := range reg {
			own := h[reg]
			h[reg] = h[lower]
			if err, at := alloc.Check(p, h, 32); err != api.ErrAllocShare || at != reg {
				t.Fatalf("r%d in the home of r%d is %d at %d", reg, lower, err, at)
			}
			h[reg] = own
		}
	}
}

// All small programs in all homes of a few.
func TestCheckOfAllSmallPrograms(t *testing.T) {
	kinds := homes(register(0), register(1), slot(0))
	seen := map[api.Errno]int{}
	for n := 1; n < 5; n++ {
		allMirs(n, func(p api.Mir) {
			c := newAccount(p)
			for i := range 27 {
				h := homes(kinds[i%3], kinds[i/3%3], kinds[i/9])
				err, _ := holdCheck(t, p, c, h, 1+i%2)
				seen[err]++
			}
		})
	}
	if seen[0] < 10000 || seen[142] < 10000 || seen[143] < 10000 {
		t.Errorf("there are %v", seen)
	}
}

// Programs and homes that follow no shape.
func TestCheckOfAllShapes(t *testing.T) {
	r := random(3)
	seen := map[api.Errno]int{}
	for range 20000 {
		n := 1 + r.below(30)
		p := r.mir([]int{1, 2, 3, 6, 17, 64}[r.below(6)], n, shape{far: 1 + r.below(n), jumps: r.below(9), ends: r.below(3)})
		if r.below(3) == 0 {
			p = r.short(p.Regs, n, 1+r.below(4))
		}
		c := newAccount(p)
		number := p.Regs
		if r.below(12) == 0 {
			number = r.below(70)
		}
		h := r.homes(number, 1+r.below(64))
		regs := 33 - r.below(8)
		if r.below(6) == 0 {
			regs = r.below(12) - 2
		}
		err, _ := holdCheck(t, p, c, h, regs)
		seen[err]++
		err, _ = holdCheck(t, p, c, r.apart(c), 32)
		if err != 0 {
			t.Fatalf("homes that were to hold are %d", err)
		}
	}
	for _, err := range []api.Errno{0, 1, 141, 142, 143} {
		if seen[err] < 500 {
			t.Errorf("%d was answered %d times", err, seen[err])
		}
	}
}

// How many slots homes need: those that there are not don't count.
func TestSlots(t *testing.T) {
	for _, c := range []struct {
		h    []api.Home
		want int
	}{
		{nil, 0},
		{homes(), 0},
		{homes(register(0)), 0},
		{homes(register(31), register(63), register(5)), 0},
		{homes(slot(0)), 1},
		{homes(slot(5)), 6},
		{homes(slot(5), slot(2), slot(5)), 6},
		{homes(slot(2), register(60), slot(3)), 4},
		{homes(slot(63)), 64},
		{homes(slot(64)), 0},
		{homes(slot(-1)), 0},
		{homes(slot(math.MinInt), slot(math.MaxInt), slot(1<<32)), 0},
		{homes(slot(64), slot(7), slot(-1), register(70)), 8},
		{slices.Repeat(homes(slot(63), register(1)), 100000), 64},
		{slices.Repeat(homes(slot(0)), 1000), 1},
	} {
		if n := alloc.Slots(c.h); n != c.want || n != slotsOf(c.h) {
			t.Errorf("Slots of %s is %d, not %d", brief(c.h), n, c.want)
		}
	}
	for n := -2; n < 70; n++ {
		want := 0
		if n >= 0 && n < 64 {
			want = n + 1
		}
		if got := alloc.Slots(homes(slot(n))); got != want {
			t.Errorf("with slot %d it is %d", n, got)
		}
		if got := alloc.Slots(homes(register(n))); got != 0 {
			t.Errorf("with machine register %d it is %d", n, got)
		}
	}
}

// notRight are Mirs that are not right, wherever what is wrong stands.
func notRight() []api.Mir {
	full := slices.Repeat([]api.Ir{answer(0)}, 65537)
	return []api.Mir{
		{}, {Regs: 1}, {Regs: 1, L: []api.Ir{}}, {Regs: 64, L: full}, {Regs: 0, L: full},
		{Regs: 0, L: full[:1]}, {Regs: -1, L: full[:1]}, {Regs: 65, L: full[:1]},
		{Regs: math.MinInt, L: full[:1]}, {Regs: math.MaxInt, L: full[:1]}, {Regs: 1<<32 + 1, L: full[:1]},
		{Regs: 1, L: []api.Ir{{}, answer(0)}},
		{Regs: 1, L: []api.Ir{answer(0), {Op: 20}, answer(0)}},
		{Regs: 1, L: []api.Ir{{Op: -1}, answer(0)}},
		{Regs: 1, L: []api.Ir{answer(1)}},
		{Regs: 64, L: []api.Ir{answer(64)}},
		{Regs: 64, L: []api.Ir{answer(-1)}},
		{Regs: 2, L: []api.Ir{konst(2, 0), answer(0)}},
		{Regs: 2, L: []api.Ir{answer(0), move(math.MinInt, 0), answer(0)}},
		{Regs: 2, L: []api.Ir{three(api.MirAdd, 0, 0, math.MaxInt), answer(0)}},
		{Regs: 1, L: []api.Ir{load(0, 62), answer(0)}},
		{Regs: 1, L: []api.Ir{load(0, 64), answer(0)}},
		{Regs: 1, L: []api.Ir{jump(0), answer(0)}},
		{Regs: 1, L: []api.Ir{jump(2), answer(0)}},
		{Regs: 1, L: []api.Ir{jump(math.MinInt), answer(0)}},
		{Regs: 1, L: []api.Ir{branch(api.MirIfEq, 0, 0, 1, 0), answer(0)}},
		{Regs: 1, L: []api.Ir{branch(api.MirIfEq, 0, 0, math.MaxInt, 1), answer(0)}},
		{Regs: 2, L: []api.Ir{konst(0, 1)}},
		{Regs: 2, L: []api.Ir{answer(0), konst(0, 1)}},
		{Regs: 2, L: []api.Ir{answer(0), branch(api.MirIfEq, 0, 0, 1, 2)}},
	}
}

// holdRefused: with such an argument there is ErrArg, and nothing else.
func holdRefused(t *testing.T, p api.Mir, regs int) {
	t.Helper()
	if h, err := alloc.Alloc(p, regs); len(h) != 0 || err != 1 {
		t.Errorf("Alloc of %s with %d is %s, %d", brief(p), regs, brief(h), err)
	}
	for _, n := range []int{0, 1, 2, 64, 65} {
		for _, home := range homes(register(0), slot(0), register(-1)) {
			h := slices.Repeat(homes(home), n)
			if err, at := alloc.Check(p, h, regs); err != 1 || at != 0 {
				t.Errorf("Check of %s in %s with %d is %d at %d", brief(p), brief(h), regs, err, at)
			}
		}
	}
}

// Of what is not right, or with no number of machine registers, nothing is told.
func TestRefused(t *testing.T) {
	for _, p := range notRight() {
		if err, _ := mir.Check(p); err == 0 {
			t.Fatalf("%s is right", brief(p))
		}
		for _, regs := range []int{0, 1, 2, 31, 32, 33, -1, math.MinInt, math.MaxInt} {
			holdRefused(t, p, regs)
		}
		for _, data := range [][]byte{nil, make([]byte, 64)} {
			for _, h := range [][]api.Home{nil, homes(register(0)), homes(register(0), register(1)), homes(register(-1))} {
				if got := runIn(p, h, data); got != (outcome{err: 1}) {
					t.Errorf("Run of %s in %s is %+v", brief(p), brief(h), got)
				}
			}
		}
	}
	for _, regs := range []int{33, 34, 63, 64, 1000, 1 << 32, -1, -2, math.MinInt, math.MaxInt} {
		holdRefused(t, example(), regs)
		holdRefused(t, all64(), regs)
	}
}
