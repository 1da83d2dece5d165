package opt

import "ravelin/api"

// A cell is a word that an instruction can ask for, or set: a scratch word, by its number, or A, or X.
const (
	cellA = api.Scratch + iota
	cellX
	cellCount

	noCell = -1
)

// cells are some of them, a bit each.
type cells uint32

const allCells cells = 1<<cellCount - 1

func only(cell int) cells { return 1 << cell }

// classBits are those of a Code that tell a class of operations. Of an accepted program they are enough to know a jump.
const classBits uint16 = 7

func isJa(in api.Insn) bool { return in.Code == api.Jmp|api.Ja }

// isBranch: is it a jump of two ways?
func isBranch(in api.Insn) bool { return in.Code&classBits == api.Jmp && !isJa(in) }

// asks are the cells by which it is settled what an instruction does.
func asks(in api.Insn) cells {
	var l cells
	switch in.Code & classBits {
	case api.Ld, api.Ldx:
		if in.Code == api.Ld|api.Mem || in.Code == api.Ldx|api.Mem {
			l = only(int(in.K))
		}
	case api.Jmp:
		if isJa(in) {
			break
		}
		// A jump of two ways looks at what an operation of numbers looks at.
		fallthrough
	case api.Alu:
		if in.Code&api.X != 0 {
			l = only(cellX)
		}
		fallthrough
	case api.St:
		l |= only(cellA)
	case api.Stx:
		l = only(cellX)
	case api.Ret:
		if in.Code == api.Ret|api.A {
			l = only(cellA)
		}
	case api.Misc:
		l = only(cellX)
		if in.Code == api.Misc|api.Tax {
			l = only(cellA)
		}
	}
	return l
}

// cellOf is the cell that an instruction sets.
func cellOf(in api.Insn) int {
	switch in.Code & classBits {
	case api.Ld, api.Alu:
		return cellA
	case api.Ldx:
		return cellX
	case api.St, api.Stx:
		return int(in.K)
	case api.Misc:
		if in.Code == api.Misc|api.Tax {
			return cellX
		}
		return cellA
	}
	return noCell
}
