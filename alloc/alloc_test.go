package alloc_test

import (
	"math/bits"
	"slices"
	"testing"

	"ravelin/alloc"
	"ravelin/api"
)

func TestAllocExamples(t *testing.T) {
	p := example()
	c := newAccount(p)
	if h := holdAlloc(t, p, c, 2); h[0].Slot || h[1].Slot || h[0] == h[1] {
		t.Errorf("with two it is %v", h)
	}
	if h := holdAlloc(t, p, c, 1); h[0].Slot == h[1].Slot {
		t.Errorf("with one it is %v", h)
	}
	h := holdAlloc(t, p, c, 0)
	if !slices.Contains(h, slot(0)) || !slices.Contains(h, slot(1)) {
		t.Errorf("with none it is %v", h)
	}
	if err, at := holdCheck(t, p, c, homes(register(0), register(0)), 2); err != api.ErrAllocShare || at != 1 {
		t.Errorf("both in register 0: %d at %d", err, at)
	}
}

// inSlots is how many registers live in slots.
func inSlots(h []api.Home) int {
	n := 0
	for _, home := range h {
		if home.Slot {
			n++
		}
	}
	return n
}

// Where slots are needed, and where not, one case behind the other: so many live in slots, by how many machine registers there are.
func TestWhoLivesInSlots(t *testing.T) {
	for _, c := range []struct {
		name  string
		regs  int
		l     []api.Ir
		slots []int // with no machine register, with one, ..: how many slots are needed
	}{
		{"one", 1, []api.Ir{answer(0)}, []int{1, 0, 0}},
		{"nobody names the others", 64, []api.Ir{answer(63)}, []int{1, 0, 0}},
		{"one behind the other, and both where the one is told of the other", 3, []api.Ir{konst(0, 1), move(1, 0), move(2, 1), answer(2)}, []int{2, 1, 0}},
		{"one behind the other, apart", 3, []api.Ir{konst(0, 1), konst(1, 2), konst(2, 3), answer(2)}, []int{1, 0, 0}},
		{"over a hole", 2, []api.Ir{konst(0, 1), move(1, 0), konst(0, 2), answer(0)}, []int{2, 1, 0}},
		{"all at first", 4, []api.Ir{three(api.MirAdd, 0, 0, 1), three(api.MirAdd, 0, 0, 2), three(api.MirAdd, 0, 0, 3), answer(0)}, []int{4, 3, 2, 1, 0, 0}},
		{"set in vain", 3, []api.Ir{konst(0, 1), konst(1, 1), answer(2)}, []int{2, 1, 0}},
		{"two by two", 4, []api.Ir{konst(0, 1), konst(1, 1), branch(api.MirIfEq, 0, 1, 3, 3), konst(2, 1), konst(3, 1), branch(api.MirIfEq, 2, 3, 6, 6), konst(0, 0), answer(0)}, []int{3, 2, 1, 0}},
	} {
		p := api.Mir{Regs: c.regs, L: c.l}
		a := newAccount(p)
		for regs, want := range c.slots {
			if h := holdAlloc(t, p, a, regs); alloc.Slots(h) != want {
				t.Errorf("%s: with %d it is %s", c.name, regs, brief(h))
			}
		}
	}
}

// 64 registers that all conflict: as many live in machine registers as there are.
func TestAllocOfAllThatConflict(t *testing.T) {
	p := all64()
	c := newAccount(p)
	for regs := range 33 {
		if h := holdAlloc(t, p, c, regs); inSlots(h) != 64-regs {
			t.Errorf("with %d machine registers %d live in slots: %v", regs, inSlots(h), h)
		}
	}
}

// fewestLeft is how many spans must be left, so that over no place more lie than there are machine registers: all choices are tried.
func fewestLeft(from, to []int, lives []bool, regs int) int {
	fewest := len(lives)
	for choice := range uint(1) << len(lives) {
		stay := make([]bool, len(lives))
		for reg := range stay {
			stay[reg] = lives[reg] && choice>>reg&1 == 0
		}
		left := bits.OnesCount(choice)
		if left < fewest && mostOver(from, to, stay) <= regs {
			fewest = left
		}
	}
	return fewest
}

// overLeft is how many of the spans of those that live in slots lie over one another at most: as many slots are needed.
func overLeft(from, to []int, lives []bool, h []api.Home) int {
	is := make([]bool, len(h))
	for reg, home := range h {
		is[reg] = home.Slot && lives[reg]
	}
	return mostOver(from, to, is)
}

// All small programs, with all numbers of machine registers.
func TestAllocOfAllSmallPrograms(t *testing.T) {
	seen := 0
	for n := 1; n < 6; n++ {
		allMirs(n, func(p api.Mir) {
			c := newAccount(p)
			for regs := range 4 {
				holdAlloc(t, p, c, regs)
			}
			seen++
		})
	}
	if seen < 100000 {
		t.Errorf("there are %d", seen)
	}
}

// Programs that follow no shape: as few live in slots as the spans allow, and in no more slots than they need.
func TestAllocOfAllShapes(t *testing.T) {
	r := random(7)
	slots, none := 0, 0
	for range 4000 {
		n := 1 + r.below(24)
		p := r.short(1+r.below(8), n, 1+r.below(4))
		if r.below(2) == 0 {
			p = r.mir(1+r.below(8), n, shape{far: 1 + r.below(n), jumps: r.below(9), ends: r.below(3)})
		}
		c := newAccount(p)
		from, to, lives := c.spans(p)
		for regs := range 5 {
			h := holdAlloc(t, p, c, regs)
			left := inSlots(h)
			for reg, home := range h {
				if home.Slot && !lives[reg] {
					left--
				}
			}
			if fewest := fewestLeft(from, to, lives, regs); left != fewest {
				t.Fatalf("of %s with %d machine registers %d live in slots, not %d: %v", brief(p), regs, left, fewest, h)
			}
			if need := overLeft(from, to, lives, h); alloc.Slots(h) != need {
				t.Fatalf("of %s with %d machine registers there are %d slots, not %d: %v", brief(p), regs, alloc.Slots(h), need, h)
			}
			if left > 0 {
				slots++
			} else {
				none++
			}
		}
	}
	if slots < 2000 || none < 2000 {
		t.Errorf("%d with slots, %d without", slots, none)
	}
}

// Longer ones with many registers.
func TestAllocOfLongerPrograms(t *testing.T) {
	r := random(19)
	for range 1500 {
		n := 1 + r.below(200)
		p := r.mir(1+r.below(64), n, shape{far: 1 + r.below(n), jumps: r.below(9), ends: r.below(2)})
		if r.below(2) == 0 {
			p = r.short(p.Regs, n, 1+r.below(20))
		}
		c := newAccount(p)
		holdAlloc(t, p, c, r.below(33))
		holdAlloc(t, p, c, min(32, c.overlap(p)))
	}
}

// As many instructions and registers as there may be.
func TestLongestPrograms(t *testing.T) {
	const n = 65536
	r := random(29)
	inRow := slices.Repeat([]api.Ir{konst(0, 1)}, n)
	inRow[n-1] = answer(63)
	allAlive := slices.Repeat([]api.Ir{three(api.MirAdd, 0, 0, 0)}, n)
	for reg := range 64 {
		allAlive[n-65+reg] = three(api.MirXor, 0, 0, reg)
	}
	allAlive[n-1] = answer(0)
	over := slices.Clone(allAlive)
	over[0] = jump(n - 1)
	for _, p := range []api.Mir{
		{Regs: 64, L: inRow}, {Regs: 64, L: allAlive}, {Regs: 64, L: over},
		r.mir(64, n, shape{far: n, jumps: 2}), r.mir(64, n, shape{far: 3, jumps: 6}), r.mir(3, n, shape{far: 300, jumps: 11, ends: 1}),
		r.short(64, n, 3), r.short(64, n, 40),
	} {
		c := newAccount(p)
		for _, regs := range []int{0, 12, 32} {
			h := holdAlloc(t, p, c, regs)
			holdRun(t, p, h, r.data())
		}
		shared := make([]api.Home, 64)[:p.Regs]
		holdCheck(t, p, c, shared, 1)
	}
}

// A Mir and homes are not changed, nor their spare room, nor kept; homes that come out are new each time.
func TestAnswersAreNew(t *testing.T) {
	r := random(71)
	for range 1500 {
		p := r.mir(1+r.below(9), 1+r.below(12), shape{far: 5, jumps: 4, ends: 1})
		program := slices.Clone(p.L[:cap(p.L)])
		c := newAccount(p)
		regs := r.below(5)
		h := holdAlloc(t, p, c, regs)
		again := holdAlloc(t, p, c, regs)
		if !slices.Equal(h, again) {
			t.Fatalf("Alloc of %s with %d is %v, then %v", brief(p), regs, h, again)
		}
		for i := range h[:cap(h)] {
			h[:cap(h)][i] = slot(-7)
		}
		if slices.Contains(again[:cap(again)], slot(-7)) {
			t.Fatalf("Alloc of %s answers the same memory twice", brief(p))
		}
		given := slices.Concat(again, homes(slot(9), slot(9)))
		data := append(r.data(), 1, 2, 3)
		kept, bytes := slices.Clone(given), slices.Clone(data)
		holdCheck(t, p, c, given[:p.Regs], 32)
		holdRun(t, p, given[:p.Regs], data[:64])
		if !slices.Equal(given, kept) || !slices.Equal(data, bytes) || !slices.Equal(program, p.L[:cap(p.L)]) {
			t.Fatalf("%s, %v and %v are %s, %v and %v now", brief(program), kept, bytes, brief(p), given, data)
		}
		// Other ones in the same memory.
		for at := range p.L {
			p.L[at] = answer(0)
		}
		clear(given)
		holdAlloc(t, p, newAccount(p), regs)
		holdRun(t, p, given[:p.Regs], data[3:])
	}
}
