package flow

import (
	"iter"
	"slices"

	"ravelin/api"
)

// ways tells the places to which an instruction leads.
func ways(q []api.Insn, at int) iter.Seq[int] {
	return func(yield func(int) bool) {
		if at < 0 || at >= len(q) {
			return
		}
		behind := len(q) - 1 - at
		for _, over := range overs(q[at]) {
			// What is left is asked for, not the place gone to: that one may be too large for an int.
			if uint64(over) < uint64(behind) && !yield(at+1+int(over)) {
				return
			}
		}
	}
}

// overs are how many instructions one goes over, by each of its ways.
func overs(in api.Insn) []uint32 {
	switch {
	case isReturn(in.Code):
		return nil
	case in.Code == api.Jmp|api.Ja:
		return []uint32{in.K}
	case !isBranch(in.Code):
		return []uint32{0}
	case in.Jt == in.Jf:
		return []uint32{uint32(in.Jt)}
	}
	return []uint32{uint32(in.Jt), uint32(in.Jf)}
}

func isReturn(code uint16) bool { return code == api.Ret || code == api.Ret|api.A }

func isJump(code uint16) bool { return code == api.Jmp|api.Ja || isBranch(code) }

// isBranch: is it a jump of two ways?
func isBranch(code uint16) bool {
	switch code &^ api.X {
	case api.Jmp | api.Jeq, api.Jmp | api.Jgt, api.Jmp | api.Jge, api.Jmp | api.Jset:
		return true
	}
	return false
}

// comeTo tells the places of an accepted program that can be come to, by their order. Ways go forward alone: when it is a place's turn, all that lead to it have had theirs.
func comeTo(q []api.Insn) iter.Seq[int] {
	return func(yield func(int) bool) {
		reached := make([]bool, len(q))
		reached[0] = true
		for at := range q {
			if !reached[at] {
				continue
			}
			for to := range ways(q, at) {
				reached[to] = true
			}
			if !yield(at) {
				return
			}
		}
	}
}

// longest is how many steps the longest way of an accepted program does. From behind: what a way leads to is known ahead of it.
func longest(q []api.Insn) int {
	steps := make([]int, len(q))
	for at := range slices.Backward(q) {
		most := 0
		for to := range ways(q, at) {
			most = max(most, steps[to])
		}
		steps[at] = most + 1
	}
	return steps[0]
}
