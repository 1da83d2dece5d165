package opt

import (
	"math"
	"slices"

	"ravelin/api"
)

// thread goes from behind: what a jump leads to is threaded ahead of it, so behind a Ja there is no other one.
func (p *program) thread() {
	for at, in := range slices.Backward(p.l) {
		switch {
		case isJa(in):
			p.l[at].K = uint32(p.far(at, int(in.K)))
		case isBranch(in):
			p.l[at] = p.threaded(at, in)
		}
	}
}

// threaded is a jump of two ways, or a Ja, if these end at one place, however far that is.
func (p *program) threaded(at int, in api.Insn) api.Insn {
	t, f := p.far(at, int(in.Jt)), p.far(at, int(in.Jf))
	if t == f {
		return ja(t)
	}
	// That can't make them the same: a way that stays, since it can't go so far, leads to a Ja, and one that goes on leads to none.
	if t <= math.MaxUint8 {
		in.Jt = uint8(t)
	}
	if f <= math.MaxUint8 {
		in.Jf = uint8(f)
	}
	return in
}

// far is how many instructions a way from a place goes over in the end, that goes over so many at first.
func (p *program) far(at, over int) int {
	if in := p.l[at+1+over]; isJa(in) {
		return over + 1 + int(in.K)
	}
	return over
}

// ja goes over so many instructions.
func ja(over int) api.Insn { return api.Insn{Code: api.Jmp | api.Ja, K: uint32(over)} }
