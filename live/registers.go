package live

import (
	"iter"
	"math/bits"

	"ravelin/api"
	"ravelin/mir"
)

// registers are some of a right Mir's, a bit each: there are at most api.MaxRegs.
type registers uint64

func only(reg int) registers { return 1 << reg }

func (s registers) count() int { return bits.OnesCount64(uint64(s)) }

// all tells them, the lowest first.
func (s registers) all() iter.Seq[int] {
	return func(yield func(int) bool) {
		for left := s; left != 0; left &= left - 1 {
			if !yield(bits.TrailingZeros64(uint64(left))) {
				return
			}
		}
	}
}

// flags tells, of each of so many, whether it is one of them.
func (s registers) flags(regs int) []bool {
	l := make([]bool, regs)
	for reg := range s.all() {
		l[reg] = true
	}
	return l
}

// named are the registers that an instruction uses, and the one that it sets.
func named(x api.Ir) (uses, sets registers) {
	l, d := mir.Uses(x)
	for _, reg := range l {
		uses |= only(reg)
	}
	if d >= 0 {
		sets = only(d)
	}
	return uses, sets
}

// behind are, of each instruction of a right Mir, the registers that are asked for behind it. It is told from the end on: ways go forward alone, so where an instruction leads to, all is known at its turn.
func behind(p api.Mir) []registers {
	later := make([]registers, len(p.L))
	from := make([]registers, len(p.L)) // those asked for by the ways that begin with the instruction itself
	for at := len(p.L) - 1; at >= 0; at-- {
		for _, to := range mir.Next(p, at) {
			later[at] |= from[to]
		}
		uses, sets := named(p.L[at])
		from[at] = later[at]&^sets | uses
	}
	return later
}
