package opt

import (
	"slices"

	"ravelin/api"
	"ravelin/check"
)

// program is one that passes make another one that says the same. Between them it is accepted.
type program struct{ l []api.Insn }

// after is what a program is after a pass.
func (p *program) after(pass func()) ([]api.Insn, api.Errno) {
	if err, _ := check.Check(p.l); err != api.OK {
		return nil, api.ErrArg
	}
	p.l = slices.Clone(p.l)
	pass()
	return p.l, api.OK
}

// optimize does all passes, one behind the other, until none changes anything. That ends: where there are not fewer instructions, there are fewer jumps of two ways; or not more of these, and fewer instructions that set A or X by something else than a constant; or not more of these either, and some jump goes farther, and none less far.
func (p *program) optimize() {
	passes := []func(){p.thread, p.fold, p.prune, p.sweep}
	for changed := true; changed; {
		before := slices.Clone(p.l)
		for _, pass := range passes {
			pass()
		}
		changed = !slices.Equal(before, p.l)
	}
}

// keep leaves out what is not kept. What led to such a one leads to the next one that is kept: a way is never longer than it was, so it fits where it stood.
func (p *program) keep(kept []bool) {
	ahead := make([]int, len(p.l)) // how many of those ahead of a place are kept
	many := 0
	for at := range p.l {
		ahead[at] = many
		if kept[at] {
			many++
		}
	}
	l := make([]api.Insn, 0, many)
	for at, in := range p.l {
		if kept[at] {
			over := func(far int) int { return ahead[at+1+far] - ahead[at] - 1 }
			l = append(l, led(in, over))
		}
	}
	p.l = l
}

// led is an instruction whose ways are others.
func led(in api.Insn, over func(far int) int) api.Insn {
	switch {
	case isJa(in):
		in.K = uint32(over(int(in.K)))
	case isBranch(in):
		in.Jt, in.Jf = uint8(over(int(in.Jt))), uint8(over(int(in.Jf)))
	}
	return in
}
