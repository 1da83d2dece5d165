package opt

import (
	"ravelin/api"
	"ravelin/cbpf"
	"ravelin/flow"
)

// state is what is known of the cells, whatever the data, where a way from the beginning has come to.
type state struct {
	met   bool // has any?
	known cells
	words [cellCount]uint32
}

// fold goes by the ways that the program has ahead of it: also those on which a jump that can be told does not go. They go forward alone, so at a place's turn all of them have come to it.
func (p *program) fold() {
	l := make([]api.Insn, len(p.l))
	states := make([]state, len(p.l))
	states[0] = state{met: true, known: allCells}
	for at, in := range p.l {
		l[at] = in
		if s := &states[at]; s.met {
			l[at] = s.do(in)
			for _, to := range flow.Next(p.l, at) {
				states[to].join(s)
			}
		}
	}
	p.l = l
}

// join knows what is known on one way more, too.
func (s *state) join(t *state) {
	if !s.met {
		*s = *t
		return
	}
	s.known &= t.known
	for cell, word := range t.words {
		if s.words[cell] != word {
			s.known &^= only(cell)
		}
	}
}

// do is what an instruction may be in place of itself; behind it, the state is that behind the instruction.
func (s *state) do(in api.Insn) api.Insn {
	if isBranch(in) {
		return s.branch(in)
	}
	cell := cellOf(in)
	if cell == noCell {
		return in
	}
	word, told := s.told(in)
	if !told {
		s.known &^= only(cell)
		return in
	}
	s.known |= only(cell)
	s.words[cell] = word
	return constant(in, cell, word)
}

// constant sets A or X to a word. There is no such instruction for a scratch word.
func constant(in api.Insn, cell int, word uint32) api.Insn {
	switch cell {
	case cellA:
		in.Code, in.K = api.Ld|api.Imm, word
	case cellX:
		in.Code, in.K = api.Ldx|api.Imm, word
	}
	return in
}

// knows: is all known that an instruction asks for?
func (s *state) knows(in api.Insn) bool { return asks(in)&^s.known == 0 }

// branch is a Ja, if it can be told which way a jump goes.
func (s *state) branch(in api.Insn) api.Insn {
	if !s.knows(in) {
		return in
	}
	test := api.Insn{Code: in.Code, Jf: 1, K: in.K}
	if s.answer(test, api.Insn{Code: api.Ret, K: 1}, api.Insn{Code: api.Ret}) == 1 {
		return ja(int(in.Jt))
	}
	return ja(int(in.Jf))
}

// told is what an instruction sets its cell to, if that is always the same.
func (s *state) told(in api.Insn) (uint32, bool) {
	if !s.knows(in) {
		return 0, false
	}
	switch in.Code {
	case api.Ld | api.Abs:
		return 0, false
	case api.Ld | api.Len, api.Ldx | api.Len:
		in.K = api.DataLen
		fallthrough
	case api.Ld | api.Imm, api.Ldx | api.Imm:
		return in.K, true
	case api.Ld | api.Mem, api.Ldx | api.Mem:
		return s.words[in.K], true
	case api.St, api.Misc | api.Tax:
		return s.words[cellA], true
	case api.Stx, api.Misc | api.Txa:
		return s.words[cellX], true
	case api.Alu | api.Div | api.X:
		// By an X of 0 it sets nothing: the program ends.
		if s.words[cellX] == 0 {
			return 0, false
		}
		fallthrough
	default:
		return s.answer(in, api.Insn{Code: api.Ret | api.A}), true
	}
}

// answer is what instructions answer, done with A and X as they are known: what an operation does is layer 3's to say.
func (s *state) answer(l ...api.Insn) uint32 {
	q := append([]api.Insn{
		{Code: api.Ld | api.Imm, K: s.words[cellA]},
		{Code: api.Ldx | api.Imm, K: s.words[cellX]},
	}, l...)
	word, _, _, _ := cbpf.Run(q, make([]byte, api.DataLen))
	return word
}
