package flow_test

import (
	"math"
	"slices"
	"testing"

	"ravelin/api"
	"ravelin/flow"
)

func TestFlowExamples(t *testing.T) {
	q := example()
	c := hold(t, q)
	if !slices.Equal(c.reach, []bool{true, true, true, true, false}) {
		t.Errorf("Reach is to be %v", c.reach)
	}
	if l, err := flow.Blocks(q); err != 0 || len(l) != 3 || l[0].From != 0 || l[0].To != 2 || !slices.Equal(l[0].Next, []int{1, 2}) || l[1].From != 2 || l[1].To != 3 || len(l[1].Next) != 0 || l[2].From != 3 || l[2].To != 4 || len(l[2].Next) != 0 {
		t.Errorf("Blocks are %v, %d", l, err)
	}
	if l, err := flow.Above(q); err != 0 || !slices.Equal(l, []int{-1, 0, 0}) {
		t.Errorf("Above is %v, %d", l, err)
	}
	if n, err := flow.Longest(q); err != 0 || n != 3 {
		t.Errorf("Longest is %d, %d", n, err)
	}
}

// span is a block without its Next.
type span struct{ from, to int }

// Where a block ends, one case behind the other, and what is above it.
func TestBlocksAndWhatIsAbove(t *testing.T) {
	plain, ret := api.Insn{Code: 0x00}, api.Insn{Code: 0x06}
	ja := func(k uint32) api.Insn { return api.Insn{Code: 0x05, K: k} }
	ask := func(jt, jf uint8) api.Insn { return api.Insn{Code: 0x15, Jt: jt, Jf: jf} }
	for _, c := range []struct {
		name    string
		q       []api.Insn
		spans   []span
		next    [][]int
		above   []int
		longest int
	}{
		{"one", []api.Insn{ret}, []span{{0, 1}}, [][]int{nil}, []int{-1}, 1},
		{"in a row", []api.Insn{plain, plain, ret}, []span{{0, 3}}, [][]int{nil}, []int{-1}, 3},
		{"what is behind a Ret", []api.Insn{ret, plain, plain, ret}, []span{{0, 1}}, [][]int{nil}, []int{-1}, 1},
		{"a Ja to the next one ends its block", []api.Insn{ja(0), ret}, []span{{0, 1}, {1, 2}}, [][]int{{1}, nil}, []int{-1, 0}, 2},
		{"so does a jump whose two ways are the next one", []api.Insn{plain, ask(0, 0), plain, ret}, []span{{0, 2}, {2, 4}}, [][]int{{1}, nil}, []int{-1, 0}, 4},
		{"a jump whose two ways are one", []api.Insn{ask(1, 1), plain, ret}, []span{{0, 1}, {2, 3}}, [][]int{{1}, nil}, []int{-1, 0}, 2},
		{"Next in the order of T and F", []api.Insn{ask(1, 0), ret, ret}, []span{{0, 1}, {1, 2}, {2, 3}}, [][]int{{2, 1}, nil, nil}, []int{-1, 0, 0}, 2},
		{"one to which two lead begins a block", []api.Insn{ask(0, 1), plain, plain, ret}, []span{{0, 1}, {1, 2}, {2, 4}}, [][]int{{1, 2}, {2}, nil}, []int{-1, 0, 0}, 4},
		{"what can't be come to leads nowhere", []api.Insn{ja(1), ja(1), plain, plain, ret}, []span{{0, 1}, {2, 5}}, [][]int{{1}, nil}, []int{-1, 0}, 4},
		{"nor does a row of such", []api.Insn{ja(2), plain, ask(0, 1), plain, plain, ret}, []span{{0, 1}, {3, 6}}, [][]int{{1}, nil}, []int{-1, 0}, 4},
		{"a Ret ahead continues nothing", []api.Insn{ask(0, 1), ret, plain, ret}, []span{{0, 1}, {1, 2}, {2, 4}}, [][]int{{1, 2}, nil, nil}, []int{-1, 0, 0}, 3},
		{"two ways that meet", []api.Insn{ask(0, 2), plain, ja(1), plain, ret}, []span{{0, 1}, {1, 3}, {3, 4}, {4, 5}}, [][]int{{1, 2}, {3}, {3}, nil}, []int{-1, 0, 0, 0}, 4},
		{"two behind each other", []api.Insn{ask(0, 1), plain, ask(0, 1), plain, ret}, []span{{0, 1}, {1, 2}, {2, 3}, {3, 4}, {4, 5}}, [][]int{{1, 2}, {2}, {3, 4}, {4}, nil}, []int{-1, 0, 0, 2, 2}, 5},
		{"a way over all meets them", []api.Insn{ask(0, 3), ask(0, 1), plain, ask(0, 0), ret}, []span{{0, 1}, {1, 2}, {2, 3}, {3, 4}, {4, 5}}, [][]int{{1, 4}, {2, 3}, {3}, {4}, nil}, []int{-1, 0, 1, 1, 0}, 5},
		{"the shorter way has more blocks", []api.Insn{ask(0, 3), ja(0), ja(0), ret, plain, plain, plain, plain, ret}, []span{{0, 1}, {1, 2}, {2, 3}, {3, 4}, {4, 9}}, [][]int{{1, 4}, {2}, {3}, nil, nil}, []int{-1, 0, 1, 2, 0}, 6},
	} {
		hold(t, c.q)
		l, _ := flow.Blocks(c.q)
		if len(l) != len(c.spans) {
			t.Errorf("%s: the blocks are %v, not %v", c.name, l, c.spans)
			continue
		}
		for i, b := range l {
			if b.From != c.spans[i].from || b.To != c.spans[i].to || !slices.Equal(b.Next, c.next[i]) {
				t.Errorf("%s: block %d is %v, not %v, %v", c.name, i, b, c.spans[i], c.next[i])
			}
		}
		if above, _ := flow.Above(c.q); !slices.Equal(above, c.above) {
			t.Errorf("%s: Above is %v, not %v", c.name, above, c.above)
		}
		if n, _ := flow.Longest(c.q); n != c.longest {
			t.Errorf("%s: Longest is %d, not %d", c.name, n, c.longest)
		}
	}
}

// Of programs that are not accepted nothing is told, wherever what is wrong stands.
func TestRefused(t *testing.T) {
	for _, q := range [][]api.Insn{
		nil, {}, returns(4097), returns(5000),
		{{Code: 0x00}},
		{{Code: 0x05}},
		{{Code: 0x06}, {Code: 0x00}},
		{{Code: 0x05, K: 1}, {Code: 0x06}},
		{{Code: 0x05, K: math.MaxUint32}, {Code: 0x06}},
		{{Code: 0x15, Jt: 1}, {Code: 0x06}},
		{{Code: 0x1d, Jf: 1}, {Code: 0x06}},
		{{Code: 0x06}, {Code: 0x45, Jf: 255}, {Code: 0x06}},
		{{Code: 0x06}, {Code: 0x94, K: 3}, {Code: 0x06}},
		{{Code: 0xffff}, {Code: 0x06}},
		{{Code: 0x20, K: 62}, {Code: 0x06}},
		{{Code: 0x20, K: 64}, {Code: 0x06}},
		{{Code: 0x34}, {Code: 0x06}},
		{{Code: 0x06}, {Code: 0x34}, {Code: 0x06}},
		{{Code: 0x64, K: 32}, {Code: 0x06}},
		{{Code: 0x02, K: 16}, {Code: 0x06}},
		example()[:1], example()[:2],
	} {
		holdRefused(t, q)
	}
	for n := 1; n < 5; n++ {
		allPrograms(n, func(q []api.Insn) {
			holdRefused(t, append(slices.Clone(q), api.Insn{Code: 0x00}))
			longer := slices.Clone(q)
			longer[0] = api.Insn{Code: 0x05, K: uint32(n - 1)}
			holdRefused(t, longer)
		})
	}
}

// All accepted programs of a few instructions, by what they lead to.
func TestAllSmallPrograms(t *testing.T) {
	seen := 0
	for n := 1; n < 7; n++ {
		allPrograms(n, func(q []api.Insn) {
			hold(t, q)
			seen++
		})
	}
	if seen < 300000 {
		t.Errorf("there are %d programs", seen)
	}
}

// The longest way by going all of them.
func TestLongestOfAllWays(t *testing.T) {
	var steps func(q []api.Insn, at int) int
	steps = func(q []api.Insn, at int) int {
		most := 0
		for _, to := range nextByHand(q, at) {
			most = max(most, steps(q, to))
		}
		return 1 + most
	}
	r := random(3)
	for range 20000 {
		q := r.program(1+r.below(14), 1+r.below(8), r.below(10), r.below(3))
		if n, err := flow.Longest(q); err != 0 || n != steps(q, 0) {
			t.Fatalf("Longest of %v is %d, %d, not %d", q, n, err, steps(q, 0))
		}
	}
}

// Programs that follow no shape, with many jumps and few, far ones and near ones.
func TestProgramsOfAllShapes(t *testing.T) {
	r := random(11)
	seen := map[string]int{}
	for range 12000 {
		n := 1 + r.below(60)
		q := r.program(n, 1+r.below(n), r.below(10), r.below(3))
		c := hold(t, q)
		if slices.Contains(c.reach, false) {
			seen["some can't be come to"]++
		}
		for b, up := range c.lastAboveOfMany() {
			if b > 0 && up < b-1 {
				seen["above and not the one ahead"]++
			}
		}
		for _, b := range c.blocks {
			if b.To-b.From > 2 {
				seen["long blocks"]++
			}
			if len(b.Next) == 2 && b.Next[0] > b.Next[1] {
				seen["T behind F"]++
			}
		}
		if r.below(20) == 0 {
			holdFresh(t, q)
		}
	}
	for _, name := range []string{"some can't be come to", "above and not the one ahead", "long blocks", "T behind F"} {
		if seen[name] < 1000 {
			t.Errorf("%s: %d", name, seen[name])
		}
	}
}

// The two accounts of what is above tell the same.
func TestAboveOfMany(t *testing.T) {
	r := random(17)
	for range 300 {
		n := 1 + r.below(150)
		c := accountOf(r.program(n, 1+r.below(30), 8, 1))
		if a, b := c.lastAbove(t), c.lastAboveOfMany(); !slices.Equal(a, b) {
			t.Fatalf("of %v: %v, %v", c.blocks, a, b)
		}
	}
}
