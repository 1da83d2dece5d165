package decision

import (
	"math"

	"ravelin/api"
	"ravelin/sem"
)

// allBits is a mask that lets all bits of a word through.
const allBits uint32 = math.MaxUint32

// maker makes nodes, those that are alike once. It knows them by their numbers, in the order in which they are made; their T and F are such numbers.
type maker struct {
	made    []api.Node
	numbers map[api.Node]int
	large   bool // more nodes than there may be were asked for
}

func newMaker() *maker { return &maker{numbers: map[api.Node]int{}} }

// node is the number of a node. One too many is not made: any other one stands for it, since nothing comes of them all then.
func (m *maker) node(n api.Node) int {
	if at, is := m.numbers[n]; is {
		return at
	}
	if len(m.made) == api.MaxNodes {
		m.large = true
		return 0
	}
	at := len(m.made)
	m.made = append(m.made, n)
	m.numbers[n] = at
	return at
}

// leaf is the leaf with the word of a verdict that may be.
func (m *maker) leaf(v api.Verdict) int {
	w, _ := sem.Action(v)
	return m.node(api.Node{Leaf: true, Word: w})
}

// question is what a test asks of a word of the data.
type question struct {
	off  int
	mask uint32
	op   api.NodeOp
	k    uint32
}

// ask is the node that leads to t, if it is as a question says, else to f: a test only where one is needed.
func (m *maker) ask(q question, t, f int) int {
	switch {
	case t == f || q.always():
		return t
	case q.never():
		return f
	case q.op == api.NodeEq && q.k == 0 && q.mask != allBits:
		return m.node(api.Node{Off: q.off, Mask: allBits, Op: api.NodeSet, K: q.mask, T: f, F: t})
	}
	return m.node(api.Node{Off: q.off, Mask: q.mask, Op: q.op, K: q.k, T: t, F: f})
}

// always: is it so, whatever the data are?
func (q question) always() bool {
	switch q.op {
	case api.NodeEq:
		return q.mask == 0 && q.k == 0
	case api.NodeGe:
		return q.k == 0
	}
	return false
}

// never: is it not so, whatever the data are?
func (q question) never() bool {
	switch q.op {
	case api.NodeEq:
		return q.k&^q.mask != 0
	case api.NodeGt:
		return q.k >= q.mask
	case api.NodeGe:
		return q.k > q.mask
	}
	return false
}
