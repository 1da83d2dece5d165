package flow_test

import (
	"fmt"
	"math/big"
	"reflect"
	"slices"
	"testing"

	"ravelin/api"
	"ravelin/check"
	"ravelin/flow"
)

// brief is the beginning of what is told of a thing: a program may be long.
func brief(x any) string {
	s := fmt.Sprint(x)
	return s[:min(len(s), 600)]
}

// nextByHand are the places to which an instruction leads, written down from the chapter's words by their numbers.
func nextByHand(q []api.Insn, at int) []int {
	if at < 0 || at >= len(q) {
		return nil
	}
	in := q[at]
	overs := []int64{0}
	switch in.Code {
	case 0x06, 0x16:
		overs = nil
	case 0x05:
		overs = []int64{int64(in.K)}
	case 0x15, 0x25, 0x35, 0x45, 0x1d, 0x2d, 0x3d, 0x4d:
		overs = []int64{int64(in.Jt), int64(in.Jf)}
	}
	var l []int
	for _, over := range overs {
		to := int64(at) + over + 1
		if to < int64(len(q)) && !slices.Contains(l, int(to)) {
			l = append(l, int(to))
		}
	}
	return l
}

// account is what the chapter says of an accepted program.
type account struct {
	next   [][]int
	from   [][]int // the places that can be come to and lead to a place
	reach  []bool
	blocks []api.Block
	number []int // of the block in which a place is; -1: of none
}

func accountOf(q []api.Insn) *account {
	c := &account{next: make([][]int, len(q)), from: make([][]int, len(q))}
	for at := range q {
		c.next[at] = nextByHand(q, at)
	}
	c.reach = walk(c.next, -1)
	for at, l := range c.next {
		for _, to := range l {
			if c.reach[at] {
				c.from[to] = append(c.from[to], at)
			}
		}
	}
	c.layBlocks(q)
	return c
}

// walk tells what can be come to from the first one on, if there is no way through one of them.
func walk(next [][]int, without int) []bool {
	met := make([]bool, len(next))
	todo := []int{0}
	for len(todo) > 0 {
		at := todo[len(todo)-1]
		todo = todo[:len(todo)-1]
		if at == without || met[at] {
			continue
		}
		met[at] = true
		todo = append(todo, next[at]...)
	}
	return met
}

// continues: does a place continue the one ahead of it?
func (c *account) continues(q []api.Insn, at int) bool {
	return at > 0 && c.reach[at] && c.reach[at-1] && slices.Equal(c.next[at-1], []int{at}) && q[at-1].Code&7 != 5 && slices.Equal(c.from[at], []int{at - 1})
}

func (c *account) layBlocks(q []api.Insn) {
	for at := range q {
		if c.continues(q, at) {
			c.blocks[len(c.blocks)-1].To++
		} else if c.reach[at] {
			c.blocks = append(c.blocks, api.Block{From: at, To: at + 1})
		}
		c.number = append(c.number, -1)
		if c.reach[at] {
			c.number[at] = len(c.blocks) - 1
		}
	}
	for i := range c.blocks {
		b := &c.blocks[i]
		for _, to := range c.next[b.To-1] {
			b.Next = append(b.Next, c.number[to])
		}
	}
}

// above are the blocks above each one: those without which there is no way to it.
func (c *account) above() [][]int {
	next := make([][]int, len(c.blocks))
	for i, b := range c.blocks {
		next[i] = b.Next
	}
	all := make([][]int, len(c.blocks))
	for b := range c.blocks {
		for i, met := range walk(next, b) {
			if i != b && !met {
				all[i] = append(all[i], b)
			}
		}
	}
	return all
}

// lastAbove is, of each block, the one above it that all others above it are above.
func (c *account) lastAbove(t *testing.T) []int {
	t.Helper()
	all := c.above()
	var l []int
	for b, above := range all {
		var last []int
		for _, x := range above {
			if !slices.ContainsFunc(above, func(y int) bool { return y != x && !slices.Contains(all[x], y) }) {
				last = append(last, x)
			}
		}
		if len(above) == 0 {
			last = []int{-1}
		}
		if len(last) != 1 {
			t.Fatalf("of %s above block %d of %s the last ones are %s", brief(above), b, brief(c.blocks), brief(last))
		}
		l = append(l, last[0])
	}
	return l
}

// lastAboveOfMany is the same in less time: what is above a block are those that are, or are above, each of those that lead to it.
func (c *account) lastAboveOfMany() []int {
	sets := make([]*big.Int, len(c.blocks)) // of each block itself and those above it
	many := make([]int, len(c.blocks))
	var l []int
	for i := range c.blocks {
		set := new(big.Int)
		for n, from := range c.from[c.blocks[i].From] {
			if n == 0 {
				set.Set(sets[c.number[from]])
			} else {
				set.And(set, sets[c.number[from]])
			}
		}
		last := -1
		for b := range i {
			if set.Bit(b) == 1 {
				many[i]++
			}
		}
		for b := range i {
			if set.Bit(b) == 1 && many[b] == many[i]-1 {
				last = b
			}
		}
		l = append(l, last)
		sets[i] = set.SetBit(set, i, 1)
	}
	return l
}

// longest is the number of steps of the longest way, place by place from the first one on.
func (c *account) longest(q []api.Insn) int {
	steps := make([]int, len(q))
	most := 0
	for at := range q {
		if !c.reach[at] {
			continue
		}
		for _, from := range c.from[at] {
			steps[at] = max(steps[at], steps[from])
		}
		steps[at]++
		if q[at].Code&7 == 6 {
			most = max(most, steps[at])
		}
	}
	return most
}

// holdRefused: of a program that is not accepted there is ErrArg, and nothing else.
func holdRefused(t *testing.T, q []api.Insn) {
	t.Helper()
	if err, _ := check.Check(q); err == 0 {
		t.Fatalf("%s is accepted", brief(q))
	}
	if l, err := flow.Reach(q); len(l) != 0 || err != 1 {
		t.Errorf("Reach of %s is %s, %d", brief(q), brief(l), err)
	}
	if l, err := flow.Blocks(q); len(l) != 0 || err != 1 {
		t.Errorf("Blocks of %s is %s, %d", brief(q), brief(l), err)
	}
	if l, err := flow.Above(q); len(l) != 0 || err != 1 {
		t.Errorf("Above of %s is %s, %d", brief(q), brief(l), err)
	}
	if n, err := flow.Longest(q); n != 0 || err != 1 {
		t.Errorf("Longest of %s is %d, %d", brief(q), n, err)
	}
	holdNext(t, q)
}

// holdNext holds Next at each place, and beside them, against the chapter.
func holdNext(t *testing.T, q []api.Insn) {
	t.Helper()
	for at := -1; at <= len(q); at++ {
		if got, want := flow.Next(q, at), nextByHand(q, at); !slices.Equal(got, want) {
			t.Fatalf("Next of %s at %d is %s, not %s", brief(q), at, brief(got), brief(want))
		}
	}
}

// hold holds all calls of an accepted program against the chapter.
func hold(t *testing.T, q []api.Insn) *account {
	t.Helper()
	if err, at := check.Check(q); err != 0 {
		t.Fatalf("%s is not accepted: %d at %d", brief(q), err, at)
	}
	holdNext(t, q)
	c := accountOf(q)
	if l, err := flow.Reach(q); err != 0 || !slices.Equal(l, c.reach) {
		t.Fatalf("Reach of %s is %s, %d, not %s", brief(q), brief(l), err, brief(c.reach))
	}
	holdBlocks(t, q, c)
	above, err := flow.Above(q)
	var want []int
	if len(c.blocks) > 100 {
		want = c.lastAboveOfMany()
	} else {
		want = c.lastAbove(t)
	}
	if err != 0 || !slices.Equal(above, want) {
		t.Fatalf("Above of %s is %s, %d, not %s", brief(q), brief(above), err, brief(want))
	}
	if n, err := flow.Longest(q); err != 0 || n != c.longest(q) {
		t.Fatalf("Longest of %s is %d, %d, not %d", brief(q), n, err, c.longest(q))
	}
	return c
}

// holdBlocks holds Blocks against the chapter, and each instruction that can be come to in one block, others in none (P10.1).
func holdBlocks(t *testing.T, q []api.Insn, c *account) {
	t.Helper()
	l, err := flow.Blocks(q)
	same := func(a, b api.Block) bool { return a.From == b.From && a.To == b.To && slices.Equal(a.Next, b.Next) }
	if err != 0 || !slices.EqualFunc(l, c.blocks, same) {
		t.Fatalf("Blocks of %s is %s, %d, not %s", brief(q), brief(l), err, brief(c.blocks))
	}
	in := make([]int, len(q))
	for _, b := range l {
		for at := b.From; at < b.To; at++ {
			in[at]++
		}
	}
	for at, n := range in {
		if n > 1 || n == 1 != c.reach[at] {
			t.Fatalf("the instruction %d of %s is in %d blocks of %s", at, brief(q), n, brief(l))
		}
	}
}

// holdFresh: a program is not changed, nor its spare room, and what comes out shares no memory with it or with anything else that came out.
func holdFresh(t *testing.T, q []api.Insn) {
	t.Helper()
	keep := slices.Clone(q[:cap(q)])
	type answers struct {
		next   [][]int
		reach  []bool
		blocks []api.Block
		above  []int
		n      int
	}
	ask := func() (a answers) {
		for at := range q {
			a.next = append(a.next, append([]int{}, flow.Next(q, at)...))
		}
		a.reach, _ = flow.Reach(q)
		a.blocks, _ = flow.Blocks(q)
		a.above, _ = flow.Above(q)
		a.n, _ = flow.Longest(q)
		return a
	}
	first, second := ask(), ask()
	if !reflect.DeepEqual(first, second) || !slices.Equal(keep, q[:cap(q)]) {
		t.Fatalf("of %s come %s, then %s; it was %s", brief(q), brief(first), brief(second), brief(keep))
	}
	// What is written into one list, or behind it, is seen in no other.
	clear(first.reach[:cap(first.reach)])
	clear(first.above[:cap(first.above)])
	for i := range first.blocks {
		l := first.blocks[i].Next
		l = l[:cap(l)]
		for j := range l {
			l[j] = -7 - i
		}
	}
	for i := range first.blocks {
		for _, to := range first.blocks[i].Next {
			if to != -7-i {
				t.Fatalf("of %s two blocks share their Next: %s", brief(q), brief(first.blocks))
			}
		}
	}
	clear(first.blocks[:cap(first.blocks)])
	if third := ask(); !reflect.DeepEqual(second, third) || !slices.Equal(keep, q[:cap(q)]) {
		t.Fatalf("of %s come %s, then %s", brief(q), brief(second), brief(third))
	}
}
