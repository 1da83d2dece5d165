package flow_test

import (
	"slices"
	"testing"

	"ravelin/api"
	"ravelin/cbpf"
	"ravelin/flow"
)

// trace are the places that a run comes to.
func trace(t *testing.T, q []api.Insn, data []byte) []int {
	t.Helper()
	m := cbpf.New(q, data)
	var l []int
	for through := false; !through; {
		_, _, _, at := m.State()
		l = append(l, at)
		through = m.Step()
	}
	if _, steps, err, _ := m.Answer(); err != 0 || steps != len(l) {
		t.Fatalf("%s ends with %d, %d steps, %d places", brief(q), err, steps, len(l))
	}
	return l
}

// numbersOf are the blocks in which the places are; -1: in none.
func numbersOf(n int, blocks []api.Block) []int {
	l := slices.Repeat([]int{-1}, n)
	for i, b := range blocks {
		for at := b.From; at < b.To; at++ {
			l[at] = i
		}
	}
	return l
}

// holdRun holds the promises over a run: from block to block by Next, and within them in order (P10.1); few steps (P10.2); all above a block ahead of it (P10.3). How many blocks it comes to, and is one of its ways the longest?
func holdRun(t *testing.T, q []api.Insn, data []byte) (int, bool) {
	t.Helper()
	reach, _ := flow.Reach(q)
	blocks, _ := flow.Blocks(q)
	above, _ := flow.Above(q)
	longest, _ := flow.Longest(q)
	many := 0
	for _, is := range reach {
		if is {
			many++
		}
	}
	places := trace(t, q, data)
	if len(places) > longest || longest > many {
		t.Fatalf("%s: a run of %d steps, Longest is %d, %d can be come to", brief(q), len(places), longest, many)
	}
	numbers := numbersOf(len(q), blocks)
	met := make([]bool, len(blocks))
	entered := 0
	for i, at := range places {
		b := numbers[at]
		if b < 0 || !reach[at] {
			t.Fatalf("%s: a run comes to %d, which is in no block of %s", brief(q), at, brief(blocks))
		}
		if at != blocks[b].From {
			if i == 0 || places[i-1] != at-1 {
				t.Fatalf("%s: a run comes to %d, within block %d, by %s", brief(q), at, b, brief(places[:i]))
			}
			continue
		}
		if i == 0 && b != 0 || i > 0 && (places[i-1] != blocks[numbers[places[i-1]]].To-1 || !slices.Contains(blocks[numbers[places[i-1]]].Next, b)) {
			t.Fatalf("%s: a run comes to block %d of %s by %s", brief(q), b, brief(blocks), brief(places[:i]))
		}
		for up := above[b]; up != -1; up = above[up] {
			if !met[up] {
				t.Fatalf("%s: a run comes to block %d of %s by %s, not to %d, which is above it", brief(q), b, brief(blocks), brief(places[:i]), up)
			}
		}
		met[b] = true
		entered++
	}
	return entered, len(places) == longest
}

// The example over data of all its ways.
func TestRunOfTheExample(t *testing.T) {
	data := make([]byte, 64)
	for _, nr := range []byte{0, 5} {
		data[0] = nr
		if n, longest := holdRun(t, example(), data); n != 2 || !longest {
			t.Errorf("over Nr %d it comes to %d blocks, by a longest way: %v", nr, n, longest)
		}
	}
}

// Runs of programs that follow no shape: P10.1, P10.2, P10.3.
func TestRunsOfAllShapes(t *testing.T) {
	r := random(41)
	longest, far := 0, 0
	for range 6000 {
		n := 1 + r.below(60)
		q := r.program(n, 1+r.below(10), r.below(10), r.below(2))
		for range 4 {
			entered, is := holdRun(t, q, r.data())
			if is {
				longest++
			}
			if entered > 5 {
				far++
			}
		}
	}
	if longest < 1000 || far < 1000 {
		t.Errorf("%d runs by the longest way, %d through many blocks", longest, far)
	}
}

// A division by an X of 0 ends a run within a block.
func TestRunThatEndsEarly(t *testing.T) {
	q := []api.Insn{{Code: 0x00, K: 7}, {Code: 0x3c}, {Code: 0x15}, {Code: 0x06, K: 1}}
	hold(t, q)
	if n, longest := holdRun(t, q, make([]byte, 64)); n != 1 || longest {
		t.Errorf("it comes to %d blocks, by a longest way: %v", n, longest)
	}
}
