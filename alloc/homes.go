package alloc

import (
	"container/heap"
	"slices"

	"ravelin/api"
	"ravelin/live"
)

// homes are some that hold. Registers conflict only where their spans lie over one another, so those that share a home have spans apart.
func homes(p api.Mir, regs int) []api.Home {
	// Where a register lives that no instruction names doesn't matter: the first home is always there.
	h := slices.Repeat([]api.Home{{Slot: regs == 0}}, p.Regs)
	// p is right: Spans has no error to tell.
	spans, _ := live.Spans(p)
	stay, left := choose(spans, regs)
	house(h, stay, false)
	house(h, left, true)
	return h
}

// choose tells which spans live in machine registers, and which are left for slots. Where too many lie over one another the one that ends last is left: it would be in the way of others for longest, so no fewer could be left in all.
func choose(spans []live.Span, regs int) (stay, left []live.Span) {
	var leaves [api.MaxRegs]bool
	var open queue = new(byEnd)
	for _, s := range spans {
		closeEnded(open, s.From)
		heap.Push(open, s)
		if open.Len() > regs {
			leaves[heap.Remove(open, open.last()).(live.Span).Reg] = true
		}
	}
	for _, s := range spans {
		if leaves[s.Reg] {
			left = append(left, s)
		} else {
			stay = append(stay, s)
		}
	}
	return stay, left
}

// house lets registers live in homes of one kind, each in the lowest one that is free where its span begins: so there are no gaps, and no more homes than spans lie over one another.
func house(h []api.Home, spans []live.Span, slot bool) {
	var taken [api.MaxRegs]bool
	var open queue = new(byEnd)
	for _, s := range spans {
		for _, ended := range closeEnded(open, s.From) {
			taken[h[ended.Reg].N] = false
		}
		n := slices.Index(taken[:], false)
		taken[n] = true
		h[s.Reg] = api.Home{Slot: slot, N: n}
		heap.Push(open, s)
	}
}
