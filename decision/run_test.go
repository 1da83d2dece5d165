package decision_test

import (
	"reflect"
	"slices"
	"testing"

	"ravelin/api"
	"ravelin/decision"
)

// holdRun holds Run of a decision against the chapter.
func holdRun(t *testing.T, l []api.Node, d api.Data) uint32 {
	t.Helper()
	want, wantMet := runByHand(l, 0, d)
	w, met, err := decision.Run(l, d)
	if w != want || met != wantMet || err != 0 {
		t.Fatalf("Run of %.500v over %v is %#x, %d, %d, not %#x, %d", l, d, w, met, err, want, wantMet)
	}
	return w
}

// Each word of the data is where layer 2 lays it.
func TestRunLooksAtEachWord(t *testing.T) {
	d := api.Data{Nr: 0x100, Arch: 0x101, IP: 0x10300000102}
	for i := range d.Args {
		d.Args[i] = uint64(0x105+2*i)<<32 | uint64(0x104+2*i)
	}
	for place := range 16 {
		for k := range 18 {
			l := []api.Node{{Off: 4 * place, Mask: full, Op: 1, K: uint32(0xff + k), T: 2, F: 1}, {Leaf: true, Word: 5}, {Leaf: true, Word: 6}}
			want := uint32(5)
			if k == place+1 {
				want = 6
			}
			if w, met, err := decision.Run(l, d); w != want || met != 2 || err != 0 {
				t.Errorf("Run, the word at %d held against %#x, is %#x, %d, %d", 4*place, l[0].K, w, met, err)
			}
		}
	}
}

// The four operations, without a sign, of the bits that the mask lets through.
func TestRunOfOperations(t *testing.T) {
	for i, c := range []struct {
		op       api.NodeOp
		w, m, k  uint32
		isWanted bool
	}{
		{1, 5, full, 5, true}, {1, 5, full, 4, false}, {1, 0x1234, 0xff, 0x34, true}, {1, 0x1234, 0xff, 0x1234, false}, {1, 5, 0, 0, true}, {1, 0, 0, 1, false},
		{2, 5, full, 4, true}, {2, 5, full, 5, false}, {2, 5, full, 6, false}, {2, 0x80000000, full, 1, true}, {2, 1, full, 0x80000000, false}, {2, 0x1234, 0xff, 0x33, true}, {2, 0x1234, 0xff, 0x34, false}, {2, full, 0, 0, false}, {2, full, full, full, false}, {2, full, full, full - 1, true},
		{3, 5, full, 4, true}, {3, 5, full, 5, true}, {3, 5, full, 6, false}, {3, 0x80000000, full, 1, true}, {3, 1, full, 0x80000000, false}, {3, 0x1234, 0xff, 0x34, true}, {3, 0x1234, 0xff, 0x35, false}, {3, 0, 0, 0, true}, {3, 0, full, full, false},
		{4, 5, full, 4, true}, {4, 5, full, 2, false}, {4, 5, full, 6, true}, {4, 5, full, 0, false}, {4, 5, 1, 4, false}, {4, 5, 4, 4, true}, {4, 0x80000000, full, 0x80000000, true}, {4, full, 0, full, false}, {4, full, full, 0x80000000, true},
	} {
		for place := range 16 {
			l := []api.Node{{Off: 4 * place, Mask: c.m, Op: c.op, K: c.k, T: 1, F: 2, Word: 9}, {Leaf: true, Word: 1}, {Leaf: true, Word: 2}}
			var d api.Data
			half := uint64(c.w) << (32 * (place % 2))
			switch place {
			case 0:
				d.Nr = c.w
			case 1:
				d.Arch = c.w
			case 2, 3:
				d.IP = half
			default:
				d.Args[place/2-2] = half
			}
			want := uint32(2)
			if c.isWanted {
				want = 1
			}
			if w, met, err := decision.Run(l, d); w != want || met != 2 || err != 0 {
				t.Errorf("%d: Run of %v over %v is %d, %d, %d", i, l, d, w, met, err)
			}
		}
	}
}

// A root that is a leaf answers at once, whatever stands behind it.
func TestRunOfALeaf(t *testing.T) {
	for _, l := range [][]api.Node{{{Leaf: true, Word: 0x80000000}}, {{Leaf: true, Word: 0x80000000, Off: -1, Op: 9, T: -5, F: 80}, {Leaf: true}}} {
		if w, met, err := decision.Run(l, api.Data{Nr: 7}); w != 0x80000000 || met != 1 || err != 0 {
			t.Errorf("Run of %v is %#x, %d, %d", l, w, met, err)
		}
		if n, err := decision.Depth(l); n != 1 || err != 0 {
			t.Errorf("Depth of %v is %d, %d", l, n, err)
		}
	}
}

// The longest way is looked for, not the first one, and not among nodes that can't be come to.
func TestDepthExamples(t *testing.T) {
	ask := func(to, other int) api.Node { return api.Node{Op: 1, T: to, F: other} }
	leaf := api.Node{Leaf: true}
	for i, c := range []struct {
		l    []api.Node
		want int
	}{
		{[]api.Node{leaf}, 1},
		{[]api.Node{ask(1, 1), leaf}, 2},
		{[]api.Node{ask(1, 2), leaf, leaf}, 2},
		{[]api.Node{ask(1, 2), ask(2, 2), leaf}, 3},
		{[]api.Node{ask(2, 1), ask(2, 2), leaf}, 3},
		{[]api.Node{ask(2, 2), ask(2, 2), leaf}, 2},
		{[]api.Node{ask(4, 4), ask(2, 2), ask(3, 3), leaf, leaf}, 2},
		{[]api.Node{leaf, ask(2, 2), ask(3, 3), leaf}, 1},
		{[]api.Node{ask(1, 3), ask(2, 4), ask(4, 4), leaf, leaf}, 4},
		{ladder(4096), 4096},
	} {
		if n, err := decision.Depth(c.l); n != c.want || err != 0 {
			t.Errorf("%d: Depth is %d, %d, not %d", i, n, err, c.want)
		}
	}
}

// Where each node leads to the next two, there are more ways than anybody can go.
func TestDepthOfManyWays(t *testing.T) {
	l := ladder(4096)
	for i := range l {
		l[i].T = min(i+2, 4095)
	}
	if n, err := decision.Depth(l); n != 4096 || err != 0 {
		t.Errorf("Depth is %d, %d", n, err)
	}
	for i := range l {
		l[i].F = l[i].T
	}
	if n, err := decision.Depth(l); n != 2049 || err != 0 {
		t.Errorf("Depth is %d, %d", n, err)
	}
}

func TestRunOfALongWay(t *testing.T) {
	l := ladder(4096)
	for _, nr := range []uint32{0, 1, 4093, 4094, 4095, full} {
		want := min(int(nr)+2, 4096)
		if w, met, err := decision.Run(l, api.Data{Nr: nr}); w != 7 || met != want || err != 0 {
			t.Errorf("Run of %d is %d, %d, %d, not %d nodes", nr, w, met, err, want)
		}
	}
}

// Decisions that no policy need have, over data that follow no shape; what is handed in is not changed, nor its spare room, and an answer is the same again.
func TestRunOfAllShapes(t *testing.T) {
	r := random(47)
	seen := map[int]int{}
	for range 20000 {
		l := r.nodes(1 + r.below(12))
		all := l[:cap(l)]
		was := slices.Clone(all)
		want := depthByHand(l, 0)
		if n, err := decision.Depth(l); n != want || err != 0 {
			t.Fatalf("Depth of %v is %d, %d, not %d", l, n, err, want)
		}
		for range 4 {
			d := r.words()
			if w := holdRun(t, l, d); w != holdRun(t, l, d) {
				t.Fatalf("Run of %v over %v is another one", l, d)
			}
			_, met := runByHand(l, 0, d)
			seen[met]++
		}
		if !reflect.DeepEqual(all, was) {
			t.Fatalf("%v was %v", all, was)
		}
	}
	for met := 1; met <= 5; met++ {
		if seen[met] < 1000 {
			t.Errorf("how many nodes were come to: %v", seen)
		}
	}
}
