package lower_test

import (
	"math"
	"reflect"
	"slices"
	"testing"

	"ravelin/api"
	"ravelin/lower"
)

// emitted holds Emit against instructions, and against the account; Size against how many they are.
func emitted(t *testing.T, l []api.Node, want []api.Insn) {
	t.Helper()
	q, err := lower.Emit(l)
	if err != 0 || !slices.Equal(q, want) {
		t.Errorf("Emit of %v is %v, %d, not %v", l, q, err, want)
	}
	if n, err := lower.Size(l); n != len(want) || err != 0 {
		t.Errorf("Size of %v is %d, %d, not %d", l, n, err, len(want))
	}
	holdEmit(t, l)
}

// The chapter's examples.
func TestEmitExamples(t *testing.T) {
	one, two := api.Node{Leaf: true, Word: 1}, api.Node{Leaf: true, Word: 2}
	emitted(t, []api.Node{{Leaf: true, Word: 0x7fff0000}}, []api.Insn{{Code: 6, K: 0x7fff0000}})
	emitted(t, []api.Node{{Mask: full, Op: 1, K: 7, T: 1, F: 2}, one, two},
		[]api.Insn{{Code: 0x20}, {Code: 0x15, Jf: 1, K: 7}, {Code: 6, K: 1}, {Code: 6, K: 2}})
	emitted(t, []api.Node{{Mask: 0xff, Op: 1, K: 7, T: 1, F: 2}, one, two},
		[]api.Insn{{Code: 0x20}, {Code: 0x54, K: 0xff}, {Code: 0x15, Jf: 1, K: 7}, {Code: 6, K: 1}, {Code: 6, K: 2}})
	far := []api.Node{ask(9, 1, 301)}
	want := []api.Insn{{Code: 0x20}, {Code: 0x15, Jt: 1, Jf: 0, K: 9}, {Code: 5, K: 300}}
	for i := range 301 {
		far = append(far, api.Node{Leaf: true, Word: uint32(i)})
		want = append(want, api.Insn{Code: 6, K: uint32(i)})
	}
	emitted(t, far, want)
}

// Each operation, place, mask, and number.
func TestEmitOfTests(t *testing.T) {
	words := []uint32{0, 1, 0xff, 0x7fffffff, 0x80000000, full - 1, full}
	codes := map[api.NodeOp]uint16{1: 0x15, 2: 0x25, 3: 0x35, 4: 0x45}
	for op, code := range codes {
		for off := 0; off < 64; off += 4 {
			for _, mask := range words {
				for _, k := range words {
					l := []api.Node{{Off: off, Mask: mask, Op: op, K: k, T: 2, F: 1}, {Leaf: true, Word: k}, {Leaf: true, Word: mask}}
					want := []api.Insn{{Code: 0x20, K: uint32(off)}, {Code: 0x54, K: mask}, {Code: code, Jt: 1, K: k}, {Code: 6, K: k}, {Code: 6, K: mask}}
					if mask == full {
						want = slices.Delete(want, 1, 2)
					}
					emitted(t, l, want)
				}
			}
		}
	}
}

// Fields that a leaf, or a test, has no use for say nothing.
func TestEmitOfIdleFields(t *testing.T) {
	l := []api.Node{
		{Off: 60, Mask: full, Op: 2, K: 5, T: 1, F: 1, Word: 99},
		{Leaf: true, Word: 3, Off: -7, Mask: 8, Op: -9, K: 10, T: math.MinInt, F: math.MaxInt},
		{Leaf: true, Word: 4, Off: 61, Mask: full, Op: 1, K: 10, T: 2, F: 1},
	}
	emitted(t, l, []api.Insn{{Code: 0x20, K: 60}, {Code: 0x25, K: 5}, {Code: 6, K: 3}, {Code: 6, K: 4}})
}

// Both ways may go to one node; nodes that can't be come to are laid too, and leaves that are alike stand where they stand.
func TestEmitOfEachNode(t *testing.T) {
	leaf := api.Node{Leaf: true, Word: 5}
	emitted(t, []api.Node{leaf, leaf, ask(1, 4, 4), leaf, leaf}, []api.Insn{{Code: 6, K: 5}, {Code: 6, K: 5}, {Code: 0x20}, {Code: 0x15, Jt: 1, Jf: 1, K: 1}, {Code: 6, K: 5}, {Code: 6, K: 5}})
	emitted(t, []api.Node{ask(1, 2, 3), ask(2, 3, 2), masked(3, 3, 3), leaf}, []api.Insn{
		{Code: 0x20}, {Code: 0x15, Jt: 2, Jf: 5, K: 1},
		{Code: 0x20}, {Code: 0x15, Jt: 3, Jf: 0, K: 2},
		{Code: 0x20}, {Code: 0x54, K: 0x7fffffff}, {Code: 0x15, K: 3},
		{Code: 6, K: 5},
	})
}

// Of what is no decision there is no program: the error is that of Check, ahead of how long it is.
func TestEmitOfWhatIsNoDecision(t *testing.T) {
	leaf := api.Node{Leaf: true}
	large := ladder(4096)
	large[4094].F = 4096
	for i, c := range []struct {
		l    []api.Node
		want api.Errno
	}{
		{nil, 83}, {[]api.Node{}, 83}, {leaves(4097), 83}, {ladder(4097), 83}, {make([]api.Node, 4097), 83},
		{make([]api.Node, 1), 84},
		{[]api.Node{{Op: 1}}, 85},
		{[]api.Node{{Op: 1, Off: 64, T: 1, F: 1}, leaf}, 84},
		{[]api.Node{{Op: 1, Off: -4, T: 1, F: 1}, leaf}, 84},
		{[]api.Node{{Op: 1, Off: 2, T: 1, F: 1}, leaf}, 84},
		{[]api.Node{{Op: 5, T: 1, F: 1}, leaf}, 84},
		{[]api.Node{{Op: 0, T: 1, F: 1}, leaf}, 84},
		{[]api.Node{{Op: 1, T: 0, F: 1}, leaf}, 85},
		{[]api.Node{{Op: 1, T: 1, F: 0}, leaf}, 85},
		{[]api.Node{{Op: 1, T: 2, F: 1}, leaf}, 85},
		{[]api.Node{{Op: 1, T: 1, F: math.MaxInt}, leaf}, 85},
		{[]api.Node{{Op: 1, T: math.MinInt, F: 1}, leaf}, 85},
		{[]api.Node{leaf, {Op: 1, T: 2, F: -1}, {Op: 9}, leaf}, 85},
		{[]api.Node{leaf, {Op: 1, T: 2, F: 3}, {Op: 9}, leaf}, 84},
		{large, 85},
	} {
		if n, err := lower.Size(c.l); n != 0 || err != c.want {
			t.Errorf("%d: Size is %d, %d, not %d", i, n, err, c.want)
		}
		if q, err := lower.Emit(c.l); len(q) != 0 || err != c.want {
			t.Errorf("%d: Emit is %d instructions, %d, not %d", i, len(q), err, c.want)
		}
	}
}

// As many instructions as there may be, and one more, of leaves and of tests.
func TestEmitOfHowMany(t *testing.T) {
	near := func(tests, rest int) []api.Node {
		var l []api.Node
		for i := range tests {
			l = append(l, ask(i, i+1, i+1))
		}
		return append(l, leaves(rest)...)
	}
	for _, c := range []struct {
		l    []api.Node
		size int
	}{
		{leaves(4095), 4095}, {leaves(4096), 4096},
		{near(1, 4094), 4096}, {near(1, 4095), 4097},
		{near(2047, 1), 4095}, {near(2047, 2), 4096}, {near(2047, 3), 4097}, {near(2048, 1), 4097},
		{near(4095, 1), 8191},
		{append([]api.Node{masked(1, 1, 2)}, leaves(4093)...), 4096}, {append([]api.Node{masked(1, 1, 2)}, leaves(4094)...), 4097},
		{append([]api.Node{ask(1, 1, 4093)}, leaves(4093)...), 4096}, {append([]api.Node{ask(1, 1, 4094)}, leaves(4094)...), 4097},
		{append([]api.Node{ask(1, 4092, 4092)}, leaves(4092)...), 4096}, {append([]api.Node{ask(1, 4093, 4093)}, leaves(4093)...), 4097},
	} {
		want := api.OK
		if c.size > 4096 {
			want = 91
		}
		q, err := lower.Emit(c.l)
		if err != want || err == 0 && len(q) != c.size || err != 0 && len(q) != 0 {
			t.Errorf("Emit of %d nodes is %d instructions, %d, not %d, %d", len(c.l), len(q), err, c.size, want)
		}
		if n, err := lower.Size(c.l); n != c.size || err != 0 {
			t.Errorf("Size of %d nodes is %d, %d, not %d", len(c.l), n, err, c.size)
		}
		holdEmit(t, c.l)
	}
}

// The greatest program of all: each test has a mask and two long ways, but for those near the end.
func TestSizeOfTheGreatest(t *testing.T) {
	l := ladder(4096)
	for i := range l[:4095] {
		l[i].Mask, l[i].F = 0, 4095
	}
	holdEmit(t, l)
	// Of the last tests those have no long ways whose jump has at most 255 instructions behind it: 85 of three instructions each, and the one ahead of them.
	if n, err := lower.Size(l); n != 5*(4095-86)+3*86+1 || err != 0 {
		t.Errorf("Size is %d, %d", n, err)
	}
}

// Decisions that follow no shape, small ones and some with long ways, over data that they ask for: P9.2 and P9.3. What is handed in is not changed, nor its spare room, and an answer is the same again, in memory of its own.
func TestEmitOfAllShapes(t *testing.T) {
	r := random(59)
	seen := map[string]int{}
	for i := range 6000 {
		n := 1 + r.below(12)
		if i%10 == 0 {
			n = 300 + r.below(600)
		}
		l := r.nodes(n, 2+r.below(5), 1+r.below(n))
		all := l[:cap(l)]
		was := slices.Clone(all)
		q := holdEmit(t, l)
		for _, in := range q {
			if in.Code == 5 {
				seen["long ways"]++
			}
		}
		for range 8 {
			if _, met := holdRun(t, l, q, r.data()); met > 3 {
				seen["long runs"]++
			}
		}
		if !reflect.DeepEqual(all, was) {
			t.Fatalf("%v was %v", all, was)
		}
		again := holdEmit(t, l)
		clear(again[:cap(again)])
		if last := holdEmit(t, l); !slices.Equal(last, q) {
			t.Fatalf("Emit of %v is another one", l)
		}
	}
	if seen["long ways"] < 1000 || seen["long runs"] < 1000 {
		t.Errorf("what came: %v", seen)
	}
}

// All decisions of up to three nodes that have little in them, over all data that they tell apart.
func TestEmitOfAllSmallOnes(t *testing.T) {
	var data []api.Data
	for a := range 4 {
		for b := range 4 {
			data = append(data, api.Data{Nr: uint32(a), Args: [6]uint64{5: uint64(b) << 32}})
		}
	}
	var first, second []api.Node
	for op := api.NodeOp(1); op <= 4; op++ {
		for _, mask := range []uint32{full, 1, 2, 0} {
			for k := range uint32(4) {
				for ways := range 4 {
					first = append(first, api.Node{Mask: mask, Op: op, K: k, T: 1 + ways%2, F: 1 + ways/2})
				}
				second = append(second, api.Node{Off: 60, Mask: mask, Op: op, K: k, T: 2, F: 3})
			}
		}
	}
	second = append(second, api.Node{Leaf: true, Word: 9})
	for _, a := range first {
		for _, b := range second {
			l := []api.Node{a, b, {Leaf: true, Word: 5}, {Leaf: true, Word: 6}}
			q := holdEmit(t, l)
			for _, d := range data {
				holdRun(t, l, q, d)
			}
		}
	}
}

// Each step that a test may need, and no other: two or three, and one of a long way; a leaf one.
func TestStepsOfNodes(t *testing.T) {
	for _, c := range []struct {
		l          []api.Node
		nr         uint32
		steps, met int
	}{
		{leaves(1), 1, 1, 1},
		{append([]api.Node{ask(1, 1, 2)}, leaves(2)...), 1, 3, 2},
		{append([]api.Node{masked(1, 1, 2)}, leaves(2)...), 1, 4, 2},
		{append([]api.Node{masked(1, 300, 2)}, leaves(300)...), 1, 5, 2},
		{append([]api.Node{masked(1, 300, 2)}, leaves(300)...), 2, 4, 2},
		{append([]api.Node{masked(1, 2, 300)}, leaves(300)...), 2, 5, 2},
		{append([]api.Node{masked(1, 2, 300)}, leaves(300)...), 1, 4, 2},
		{append([]api.Node{masked(1, 299, 300)}, leaves(300)...), 1, 5, 2},
		{append([]api.Node{masked(1, 299, 300)}, leaves(300)...), 2, 5, 2},
	} {
		d := api.Data{Nr: c.nr}
		q := holdEmit(t, c.l)
		if _, met := holdRun(t, c.l, q, d); met != c.met {
			t.Errorf("%d nodes are come to, not %d", met, c.met)
		}
		if _, steps := run(q, d); steps != c.steps {
			t.Errorf("over %v %d steps are done, not %d", d, steps, c.steps)
		}
	}
	l := ladder(600)
	q := holdEmit(t, l)
	for nr := range uint32(601) {
		holdRun(t, l, q, api.Data{Nr: nr})
	}
}
