package alloc

import (
	"ravelin/api"
	"ravelin/live"
	"ravelin/mir"
)

// registers are some of a right Mir's, a bit each: there are at most api.MaxRegs.
type registers uint64

func only(reg int) registers { return 1 << reg }

func (s registers) has(reg int) bool { return s&only(reg) != 0 }

// marked are those that are marked in a list of all.
func marked(flags []bool) registers {
	var s registers
	for reg, is := range flags {
		if is {
			s |= only(reg)
		}
	}
	return s
}

// named are the registers that an instruction uses, and the one that it sets.
func named(x api.Ir) (uses, sets registers) {
	asked, set := mir.Uses(x)
	for _, reg := range asked {
		uses |= only(reg)
	}
	if set >= 0 {
		sets = only(set)
	}
	return uses, sets
}

// crowds are sets of registers of a right Mir, each of which conflicts with all others of its set: those that are asked for at first, and, of each instruction, those that are asked for behind it, with the one that it sets.
func crowds(p api.Mir) []registers {
	// p is right: Out has no error to tell.
	out, _ := live.Out(p)
	uses, sets := named(p.L[0])
	l := []registers{uses | marked(out[0])&^sets}
	for at, x := range p.L {
		_, sets := named(x)
		l = append(l, marked(out[at])|sets)
	}
	return l
}

// conflicts are, of each register of a right Mir, those with which it conflicts, and itself.
func conflicts(p api.Mir) []registers {
	with := make([]registers, p.Regs)
	for _, crowd := range crowds(p) {
		for reg := range with {
			if crowd.has(reg) {
				with[reg] |= crowd
			}
		}
	}
	return with
}

// crowded is the first register that conflicts with a lower one in the same home, if there is one.
func crowded(p api.Mir, h []api.Home) (int, bool) {
	for reg, with := range conflicts(p) {
		for lower := range reg {
			if h[lower] == h[reg] && with.has(lower) {
				return reg, true
			}
		}
	}
	return 0, false
}
