package opt

import (
	"slices"

	"ravelin/api"
	"ravelin/flow"
)

// prune leaves out what nobody comes to. Reach has no error to tell: the program is accepted.
func (p *program) prune() {
	reached, _ := flow.Reach(p.l)
	p.keep(reached)
}

// sweep goes from behind: what is asked for behind an instruction, and what is left out there, is known at its turn.
func (p *program) sweep() {
	kept := make([]bool, len(p.l))
	asked := make([]cells, len(p.l)) // those that are asked for from a place on, ahead of being set
	next := len(p.l)                 // the next one that is kept
	for at, in := range slices.Backward(p.l) {
		ways := flow.Next(p.l, at)
		var later cells
		for _, to := range ways {
			later |= asked[to]
		}
		asked[at] = later
		if leadsNowhereElse(in, ways, next) || setsInVain(in, later) {
			continue
		}
		kept[at] = true
		next = at
		if cell := cellOf(in); cell != noCell {
			asked[at] &^= only(cell)
		}
		asked[at] |= asks(in)
	}
	p.keep(kept)
}

// leadsNowhereElse: is it a jump from which all ways come to the next one that is kept?
func leadsNowhereElse(in api.Insn, ways []int, next int) bool {
	return in.Code&classBits == api.Jmp && slices.Max(ways) <= next
}

// setsInVain: does it nothing but set a cell that is not asked for later? A division by X may end the program, too.
func setsInVain(in api.Insn, later cells) bool {
	cell := cellOf(in)
	return cell != noCell && later&only(cell) == 0 && in.Code != api.Alu|api.Div|api.X
}
