package alloc

import (
	"slices"

	"ravelin/api"
	"ravelin/mir"
)

// housed is a right Mir whose registers are the homes of another one's: of all that share a home, the lowest one stands for it.
func housed(p api.Mir, h []api.Home) api.Mir {
	shared := make([]int, len(h))
	for reg, home := range h {
		shared[reg] = slices.Index(h, home)
	}
	l := make([]api.Ir, 0, len(p.L))
	for _, x := range p.L {
		l = append(l, renamed(x, shared))
	}
	return api.Mir{Regs: p.Regs, L: l}
}

// renamed is an instruction with other registers. Fields that it does not name stay: there may be anything in them.
func renamed(x api.Ir, to []int) api.Ir {
	asked, set := mir.Uses(x)
	if len(asked) > 0 {
		x.A = to[asked[0]]
	}
	if len(asked) > 1 {
		x.B = to[asked[1]]
	}
	if set >= 0 {
		x.D = to[set]
	}
	return x
}
