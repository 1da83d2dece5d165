package check

import "ravelin/api"

// wordLen is how many bytes a word of the data has, wordBits by how many bits a word can't be moved any more.
const (
	wordLen  = 4
	wordBits = 32
)

// rule is the error of those that break it, and whether an instruction at a place does.
type rule struct {
	err    api.Errno
	broken func(in api.Insn, at int) bool
}

// rules are those of a program of n instructions, in the order in which they are told.
func rules(n int) []rule {
	return []rule{
		{api.ErrCheckCode, func(in api.Insn, _ int) bool { return !Seals(in.Code) }},
		{api.ErrCheckJump, func(in api.Insn, at int) bool { return goesOver(in, n-1-at) }},
		{api.ErrCheckLoad, func(in api.Insn, _ int) bool {
			return in.Code == api.Ld|api.Abs && (in.K >= api.DataLen || in.K%wordLen != 0)
		}},
		{api.ErrCheckDiv, func(in api.Insn, _ int) bool { return in.Code == api.Alu|api.Div && in.K == 0 }},
		{api.ErrCheckShift, func(in api.Insn, _ int) bool { return isShift(in.Code) && in.K >= wordBits }},
		{api.ErrCheckScratch, func(in api.Insn, _ int) bool { return asksScratch(in.Code) && in.K >= api.Scratch }},
	}
}

// firstBroken is the error of the first rule that an instruction breaks.
func firstBroken(l []rule, in api.Insn, at int) api.Errno {
	for _, r := range l {
		if r.broken(in, at) {
			return r.err
		}
	}
	return api.OK
}

// goesOver: does a jump go over all of the instructions behind it? What is left is asked for, not the place gone to: that one may be too large for an int.
func goesOver(in api.Insn, behind int) bool {
	if in.Code == api.Jmp|api.Ja {
		return uint64(in.K) >= uint64(behind)
	}
	return isBranch(in.Code) && max(int(in.Jt), int(in.Jf)) >= behind
}
