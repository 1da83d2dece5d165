package alloc_test

import (
	"math"

	"ravelin/api"
)

func konst(d int, k uint32) api.Ir           { return api.Ir{Op: api.MirConst, D: d, K: k} }
func load(d int, k uint32) api.Ir            { return api.Ir{Op: api.MirLoad, D: d, K: k} }
func move(d, a int) api.Ir                   { return api.Ir{Op: api.MirMove, D: d, A: a} }
func three(op api.MirOp, d, a, b int) api.Ir { return api.Ir{Op: op, D: d, A: a, B: b} }
func answer(a int) api.Ir                    { return api.Ir{Op: api.MirReturn, A: a} }
func jump(t int) api.Ir                      { return api.Ir{Op: api.MirJump, T: t} }
func branch(op api.MirOp, a, b, t, f int) api.Ir {
	return api.Ir{Op: op, A: a, B: b, T: t, F: f}
}

func register(n int) api.Home { return api.Home{N: n} }
func slot(n int) api.Home     { return api.Home{Slot: true, N: n} }

// example is layer 13's.
func example() api.Mir {
	return api.Mir{Regs: 2, L: []api.Ir{konst(0, 7), load(1, 0), three(api.MirAdd, 0, 0, 1), answer(0)}}
}

// random are numbers that follow no shape, the same ones at each run.
type random uint64

func (r *random) next() uint32 {
	*r = *r*6364136223846793005 + 1442695040888963407
	return uint32(*r>>32 ^ *r>>59)
}

// below is a number from 0 to n - 1.
func (r *random) below(n int) int { return int(r.next()>>1) % n }

// word is one of a few, or any.
func (r *random) word() uint32 {
	if r.below(4) == 0 {
		return r.next()
	}
	return uint32(r.below(4))
}

// data are 64 bytes, put together of such words.
func (r *random) data() []byte {
	var b []byte
	for range 16 {
		w := r.word()
		b = append(b, byte(w), byte(w>>8), byte(w>>16), byte(w>>24))
	}
	return b
}

// any is a number of all shapes: it may be a register's, or a place.
func (r *random) any() int {
	l := []int{0, 1, 2, 3, 5, 63, 64, 65535, 1 << 32, -1, math.MinInt, math.MaxInt}
	return l[r.below(len(l))]
}

// shape is how a Mir is: how far its jumps go, how many of twelve instructions are jumps, and ends.
type shape struct{ far, jumps, ends int }

// op is an operation.
func (r *random) op(s shape) api.MirOp {
	switch x := r.below(12); {
	case x < s.jumps:
		return api.MirOp(14 + r.below(5))
	case x < s.jumps+s.ends:
		return 19
	}
	return api.MirOp(1 + r.below(13))
}

// right is an instruction that may stand there, in a Mir of so many. In fields that its row does not name there may be anything.
func (r *random) right(op api.MirOp, regs, at, n, far int) api.Ir {
	x := api.Ir{Op: op, D: r.any(), A: r.any(), B: r.any(), K: r.word(), T: r.any(), F: r.any()}
	set := func(field string, to *int, from, below int) {
		if names(op, field) {
			*to = from + r.below(below-from)
		}
	}
	set("D", &x.D, 0, regs)
	set("A", &x.A, 0, regs)
	set("B", &x.B, 0, regs)
	set("T", &x.T, at+1, min(n, at+1+far))
	set("F", &x.F, at+1, min(n, at+1+far))
	if names(op, "W") {
		x.K = 4 * uint32(r.below(16))
	}
	return x
}

// mir is one that is right.
func (r *random) mir(regs, n int, s shape) api.Mir {
	p := api.Mir{Regs: regs, L: make([]api.Ir, n, n+r.below(3))}
	for at := range p.L {
		op := r.op(s)
		if at == n-1 {
			op = 19
		}
		p.L[at] = r.right(op, regs, at, n, s.far)
	}
	return p
}

// short is a right one whose registers come and go: each instruction names ones that are near its place.
func (r *random) short(regs, n, near int) api.Mir {
	p := r.mir(regs, n, shape{far: 2, jumps: 1})
	for at := range p.L {
		x := &p.L[at]
		low := at * regs / n
		for _, f := range []struct {
			field string
			to    *int
		}{{"D", &x.D}, {"A", &x.A}, {"B", &x.B}} {
			if names(x.Op, f.field) {
				*f.to = min(regs-1, low+r.below(near))
			}
		}
	}
	return p
}

// home is one that there may be, or, seldom, none.
func (r *random) home(few int) api.Home {
	h := api.Home{Slot: r.below(2) == 0, N: r.below(few)}
	if r.below(40) == 0 {
		h.N = r.any()
	}
	return h
}

// homes are so many, of a few.
func (r *random) homes(n, few int) []api.Home {
	h := make([]api.Home, n, n+r.below(3))
	for reg := range h {
		h[reg] = r.home(few)
	}
	return h
}

// apart are homes that hold: each register moves in with others that it does not conflict with, or has a home of its own.
func (r *random) apart(c account) []api.Home {
	var fresh []api.Home
	for n := range 64 {
		fresh = append(fresh, slot(n))
		if n < 32 {
			fresh = append(fresh, register(n))
		}
	}
	h := make([]api.Home, 0, c.regs)
	for reg := range c.regs {
		i := r.below(len(fresh))
		mine := fresh[i]
		for range 3 {
			if reg > 0 {
				if other := h[r.below(reg)]; r.below(4) > 0 && c.free(h, other, reg) {
					mine = other
				}
			}
		}
		if mine == fresh[i] {
			fresh = append(fresh[:i], fresh[i+1:]...)
		}
		h = append(h, mine)
	}
	return h
}

// free: does a register conflict with none of those that live there?
func (c account) free(h []api.Home, home api.Home, reg int) bool {
	for other := range h {
		if h[other] == home && c.conflict(other, reg) {
			return false
		}
	}
	return true
}

// lettersAt are the instructions that may stand at a place, ahead of so many others: one for each way to go on, use and set.
func lettersAt(at, behind int) []api.Ir {
	l := []api.Ir{answer(0), answer(1)}
	if behind == 0 {
		return l
	}
	l = append(l, konst(0, 1), load(1, 0), move(2, 1), move(1, 2), three(api.MirSub, 1, 0, 2))
	for a := range behind {
		l = append(l, jump(at+1+a))
		for b := range behind {
			l = append(l, branch(api.MirIfGt, 0, 1, at+1+a, at+1+b))
		}
	}
	return l
}

// allMirs goes through the right ones of n instructions of that kind.
func allMirs(n int, look func(p api.Mir)) {
	p := api.Mir{Regs: 3, L: make([]api.Ir, n)}
	var lay func(at int)
	lay = func(at int) {
		if at == n {
			look(p)
			return
		}
		for _, x := range lettersAt(at, n-1-at) {
			p.L[at] = x
			lay(at + 1)
		}
	}
	lay(0)
}
