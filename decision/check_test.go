package decision_test

import (
	"math"
	"reflect"
	"slices"
	"testing"

	"ravelin/api"
	"ravelin/decision"
)

// holdCheck holds Check of nodes against the chapter; Run and Depth answer its error, and nothing else, where it has one.
func holdCheck(t *testing.T, l []api.Node) api.Errno {
	t.Helper()
	want, wantAt := checkByHand(l)
	if err, at := decision.Check(l); err != want || at != wantAt {
		t.Fatalf("Check of %.500v is %d, %d, not %d, %d", l, err, at, want, wantAt)
	}
	w, met, err := decision.Run(l, api.Data{})
	if err != want || err != 0 && (w != 0 || met != 0) {
		t.Fatalf("Run of %.500v is %#x, %d, %d, where Check is %d", l, w, met, err, want)
	}
	n, err := decision.Depth(l)
	if err != want || err != 0 && n != 0 {
		t.Fatalf("Depth of %.500v is %d, %d, where Check is %d", l, n, err, want)
	}
	return want
}

// ladder is a decision of as many nodes, each of which leads to the one behind it, and all to the last one.
func ladder(n int) []api.Node {
	l := make([]api.Node, n)
	for i := range l {
		l[i] = api.Node{Mask: full, Op: 1, K: uint32(i), T: n - 1, F: i + 1}
	}
	l[n-1] = api.Node{Leaf: true, Word: 7}
	return l
}

// What one node of a list may be, the others being right: at its beginning, and behind others.
func TestCheckExamples(t *testing.T) {
	for i, c := range []struct {
		turn func(n *api.Node, at int)
		want api.Errno
	}{
		{func(n *api.Node, at int) {}, 0},
		{func(n *api.Node, at int) { n.T, n.F = n.F, n.T }, 0},
		{func(n *api.Node, at int) { n.T = n.F }, 0},
		{func(n *api.Node, at int) { n.T = at + 1 }, 0},
		{func(n *api.Node, at int) { n.Word, n.Mask, n.K = full, 0, full }, 0},
		{func(n *api.Node, at int) { n.Off = 60 }, 0},
		{func(n *api.Node, at int) { n.Off = 64 }, 84},
		{func(n *api.Node, at int) { n.Off = 68 }, 84},
		{func(n *api.Node, at int) { n.Off = -4 }, 84},
		{func(n *api.Node, at int) { n.Off = -1 }, 84},
		{func(n *api.Node, at int) { n.Off = 1 }, 84},
		{func(n *api.Node, at int) { n.Off = 2 }, 84},
		{func(n *api.Node, at int) { n.Off = 63 }, 84},
		{func(n *api.Node, at int) { n.Off = math.MinInt }, 84},
		{func(n *api.Node, at int) { n.Off = 1 << 32 }, 84},
		{func(n *api.Node, at int) { n.Op = 2 }, 0},
		{func(n *api.Node, at int) { n.Op = 3 }, 0},
		{func(n *api.Node, at int) { n.Op = 4 }, 0},
		{func(n *api.Node, at int) { n.Op = 5 }, 84},
		{func(n *api.Node, at int) { n.Op = 0 }, 84},
		{func(n *api.Node, at int) { n.Op = -1 }, 84},
		{func(n *api.Node, at int) { n.Op = math.MaxInt }, 84},
		{func(n *api.Node, at int) { n.Op = 1<<32 + 1 }, 84},
		{func(n *api.Node, at int) { n.T = at }, 85},
		{func(n *api.Node, at int) { n.F = at }, 85},
		{func(n *api.Node, at int) { n.T = at - 1 }, 85},
		{func(n *api.Node, at int) { n.F = at - 1 }, 85},
		{func(n *api.Node, at int) { n.T = 8 }, 85},
		{func(n *api.Node, at int) { n.F = 8 }, 85},
		{func(n *api.Node, at int) { n.T = math.MinInt }, 85},
		{func(n *api.Node, at int) { n.F = math.MaxInt }, 85},
		{func(n *api.Node, at int) { n.T = 1<<32 + at + 1 }, 85},
		{func(n *api.Node, at int) { n.Off, n.T = 2, 0 }, 84},
		{func(n *api.Node, at int) { n.Op, n.F = 5, 9 }, 84},
		{func(n *api.Node, at int) { n.Leaf, n.Off, n.Op, n.T, n.F = true, -1, -1, -1, 9 }, 0},
	} {
		for at := range 7 {
			l := ladder(8)
			c.turn(&l[at], at)
			wantAt := at
			if c.want == 0 {
				wantAt = 0
			}
			if err, place := decision.Check(l); err != c.want || place != wantAt {
				t.Errorf("%d: Check of %v is %d, %d, not %d, %d", i, l, err, place, c.want, wantAt)
			}
			holdCheck(t, l)
		}
	}
}

// The last node can lead nowhere: it is a leaf.
func TestCheckOfTheLast(t *testing.T) {
	for n := 1; n < 5; n++ {
		l := ladder(n)
		l[n-1].Leaf = false
		for _, op := range []api.NodeOp{0, 1} {
			for way := -1; way <= n; way++ {
				l[n-1].Op, l[n-1].T, l[n-1].F = op, way, way
				want := []api.Errno{84, 85}[op]
				if err, at := decision.Check(l); err != want || at != n-1 {
					t.Errorf("Check of %v is %d, %d, not %d, %d", l, err, at, want, n-1)
				}
				holdCheck(t, l)
			}
		}
	}
}

func TestCheckOfHowMany(t *testing.T) {
	for n, want := range map[int]api.Errno{0: 83, 1: 0, 2: 0, 4095: 0, 4096: 0, 4097: 83, 8192: 83, 1 << 18: 83} {
		l := make([]api.Node, n)
		for i := range l {
			l[i].Leaf = true
		}
		if err, at := decision.Check(l); err != want || at != 0 {
			t.Errorf("Check of %d leaves is %d, %d", n, err, at)
		}
		holdCheck(t, l)
		holdCheck(t, make([]api.Node, n))
		if n > 0 {
			holdCheck(t, ladder(n))
		}
	}
	if err, at := decision.Check([]api.Node{}); err != 83 || at != 0 {
		t.Errorf("Check of no nodes is %d, %d", err, at)
	}
}

// All lists of up to three nodes that have little in them.
func TestCheckOfAllSmallOnes(t *testing.T) {
	var nodes []api.Node
	for _, off := range []int{-4, 0, 2, 60, 64} {
		for op := api.NodeOp(0); op <= 5; op += 5 {
			nodes = append(nodes, api.Node{Leaf: true, Off: off, Op: op, T: -1}, api.Node{Off: off, Op: op, T: 1, F: 1})
		}
		for to := range 25 {
			nodes = append(nodes, api.Node{Off: off, Op: 4, T: to/5 - 1, F: to%5 - 1})
		}
	}
	for _, a := range nodes {
		holdCheck(t, []api.Node{a})
		for _, b := range nodes {
			holdCheck(t, []api.Node{a, b})
			for _, leaf := range []bool{false, true} {
				holdCheck(t, []api.Node{a, b, {Leaf: leaf}})
			}
		}
	}
}

// Nodes that follow no shape, decisions and nearly so; what is handed in is not changed, nor its spare room.
func TestCheckOfAllShapes(t *testing.T) {
	r := random(43)
	seen := map[api.Errno]int{}
	for range 20000 {
		l := r.nodes(1 + r.below(12))
		if holdCheck(t, l) != 0 {
			t.Fatalf("%v are a decision", l)
		}
		for range 1 + r.below(2) {
			n := &l[r.below(len(l))]
			switch r.below(5) {
			case 0:
				n.Off = r.below(80) - 8
			case 1:
				n.Op = api.NodeOp(r.below(8) - 1)
			case 2:
				n.T = r.below(len(l)+4) - 2
			case 3:
				n.F = r.below(len(l)+4) - 2
			default:
				n.Leaf = !n.Leaf
			}
		}
		all := l[:cap(l)]
		was := slices.Clone(all)
		seen[holdCheck(t, l)]++
		if !reflect.DeepEqual(all, was) {
			t.Fatalf("%v was %v", all, was)
		}
	}
	for _, err := range []api.Errno{0, 84, 85} {
		if seen[err] < 2000 {
			t.Errorf("it is told: %v", seen)
		}
	}
}
