package flow

import "ravelin/api"

// none is the number of no block.
const none = -1

// blocks are those of an accepted program.
func blocks(q []api.Insn) []api.Block {
	var l []api.Block
	entries := entriesOf(q)
	numbers := make([]int, len(q))
	end := 0
	for at := range comeTo(q) {
		if at < end {
			continue
		}
		end = endOf(q, at, entries)
		numbers[at] = len(l)
		l = append(l, api.Block{From: at, To: end})
	}
	for i, b := range l {
		for to := range ways(q, b.To-1) {
			l[i].Next = append(l[i].Next, numbers[to])
		}
	}
	return l
}

// entriesOf are how many instructions that can be come to lead to each place.
func entriesOf(q []api.Insn) []int {
	l := make([]int, len(q))
	for at := range comeTo(q) {
		for to := range ways(q, at) {
			l[to]++
		}
	}
	return l
}

// endOf is the place behind the block that begins at a place. There is an end: the last instruction returns.
func endOf(q []api.Insn, from int, entries []int) int {
	end := from + 1
block:
	for ; end < len(q); end++ {
		last := q[end-1].Code
		switch {
		case isReturn(last), isJump(last):
			break block
		case entries[end] > 1:
			// Another one leads there too.
			break block
		}
	}
	return end
}

// above is, of each block, the last one above it. Blocks lead forward alone: when it is a block's turn, what is above it and above those ahead of it stands.
func above(l []api.Block) []int {
	up := make([]int, len(l))
	for i := range up {
		up[i] = none
	}
	for i, b := range l {
		for _, to := range b.Next {
			if up[to] == none {
				up[to] = i
			} else {
				up[to] = meet(up, up[to], i)
			}
		}
	}
	return up
}

// meet is the last block that is one of two, or above it, and likewise of the other. One that is above another has the lower number, and all have the first one above them.
func meet(up []int, b, c int) int {
	for b != c {
		if b > c {
			b = up[b]
		} else {
			c = up[c]
		}
	}
	return b
}
