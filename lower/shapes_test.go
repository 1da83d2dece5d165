package lower_test

import (
	"ravelin/api"
)

// random are numbers that follow no shape, the same ones at each run.
type random uint64

func (r *random) next() uint64 {
	*r = *r*6364136223846793005 + 1442695040888963407
	return uint64(*r ^ *r>>29)
}

// below is a number from 0 to n - 1.
func (r *random) below(n int) int { return int(r.next() >> 33 % uint64(n)) }

// word is one of a few, or an edge, or any.
func (r *random) word() uint32 {
	switch r.below(4) {
	case 0:
		return uint32(r.next() >> 20)
	case 1:
		return []uint32{0x7fffffff, 0x80000000, 0x80000001, full - 1, full}[r.below(5)]
	}
	return uint32(r.below(4))
}

// data are such as the tests of random decisions ask for.
func (r *random) data() api.Data {
	d := api.Data{Nr: r.word(), Arch: r.word(), IP: r.double()}
	for i := range d.Args {
		d.Args[i] = r.double()
	}
	return d
}

func (r *random) double() uint64 { return uint64(r.word())<<32 | uint64(r.word()) }

// nodes are a decision that no policy need have: one leaf among so many, ways that go at most so far; in fields that are not used there may be anything.
func (r *random) nodes(n, leaves, far int) []api.Node {
	l := make([]api.Node, n, n+r.below(3))
	for i := range l {
		x := api.Node{Word: r.word(), Off: 4 * r.below(16), Mask: full, Op: api.NodeOp(1 + r.below(4)), K: r.word()}
		if r.below(2) == 0 {
			x.Mask = r.word()
		}
		if i+1 == n || r.below(leaves) == 0 {
			x.Leaf, x.Off, x.Op, x.T, x.F = true, r.below(200)-100, api.NodeOp(r.below(20)-8), r.below(2*n)-n, r.below(2*n)-n
		} else {
			x.T, x.F = r.ahead(i, n, far), r.ahead(i, n, far)
		}
		l[i] = x
	}
	return l
}

// ahead is a place behind another one, mostly the next one, or as far as may be.
func (r *random) ahead(at, n, far int) int {
	most := min(far, n-at-1)
	switch r.below(3) {
	case 0:
		return at + 1
	case 1:
		return at + most
	}
	return at + 1 + r.below(most)
}

// leaves are so many, each with a word of its own.
func leaves(n int) []api.Node {
	l := make([]api.Node, n)
	for i := range l {
		l[i] = api.Node{Leaf: true, Word: uint32(1000 + i)}
	}
	return l
}

// ask is a test of Nr, which becomes two instructions without its long ways.
func ask(k, t, f int) api.Node {
	return api.Node{Mask: full, Op: 1, K: uint32(k), T: t, F: f}
}

// masked is one that becomes three.
func masked(k, t, f int) api.Node {
	n := ask(k, t, f)
	n.Mask = full - 1<<31
	return n
}

// ladder is a decision of as many nodes, each of which leads to the one behind it, and all to the last one.
func ladder(n int) []api.Node {
	l := make([]api.Node, n)
	for i := range l {
		l[i] = ask(i, n-1, i+1)
	}
	l[n-1] = api.Node{Leaf: true, Word: 7}
	return l
}

// cascade is a decision of so many pairs of a test and a leaf: a test leads to the next one and to the leaf 64 tests ahead, over 192 instructions, which is too far only once the 64 tests between have a long way each. The last 64 tests lead too far by themselves; so each laying but the first gives one way more.
func cascade(pairs int) []api.Node {
	l := make([]api.Node, 0, 2*pairs+300)
	for i := range pairs {
		to := 2*(i+64) + 1
		if i >= pairs-64 {
			to = 2*pairs + 299
		}
		l = append(l, ask(i, to, 2*i+2), api.Node{Leaf: true, Word: uint32(2*i + 1)})
	}
	return append(l, leaves(300)...)
}
