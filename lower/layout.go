package lower

import (
	"math"

	"ravelin/api"
)

const (
	// maxOver is how many instructions a jump can go over by itself.
	maxOver = math.MaxUint8

	// allBits is a mask that lets all bits of a word through.
	allBits uint32 = math.MaxUint32
)

// longWays: which ways of a test have a long way?
type longWays struct{ t, f bool }

// many is how many long ways there are.
func (w longWays) many() int {
	n := 0
	if w.t {
		n++
	}
	if w.f {
		n++
	}
	return n
}

// layout is where the instructions of a decision stand.
type layout struct {
	nodes []api.Node
	long  []longWays // by the nodes' places
	first []int      // likewise: a node's first instruction; behind the last node: how many instructions there are in all
}

// layOut lays a decision anew until each way that is too far for its jump has a long way. That ends: a long way makes no other way shorter, so none is ever taken back.
func layOut(l []api.Node) *layout {
	o := &layout{l, make([]longWays, len(l)), make([]int, len(l)+1)}
anew:
	o.place()
	if o.stretch() {
		goto anew
	}
	return o
}

// place puts the nodes one behind the other, with the long ways that they have.
func (o *layout) place() {
	for at := range o.nodes {
		o.first[at+1] = o.first[at] + o.sizeAt(at)
	}
}

// sizeAt is how many instructions a node becomes.
func (o *layout) sizeAt(at int) int {
	switch n := o.nodes[at]; {
	case n.Leaf:
		return 1
	case n.Mask == allBits:
		return 2 + o.long[at].many()
	}
	return 3 + o.long[at].many()
}

// size is how many instructions there are in all.
func (o *layout) size() int { return o.first[len(o.nodes)] }

// stretch gives a long way to each way that needs one, as the nodes stand now: did one get it?
func (o *layout) stretch() bool {
	stretched := false
	for at, n := range o.nodes {
		if n.Leaf {
			continue
		}
		t, f := o.over(at)
		long := longWays{t > maxOver, f > maxOver}
		stretched = stretched || long != o.long[at]
		o.long[at] = long
	}
	return stretched
}

// over is how many instructions stand between a test's jump and the first one of T, and of F: the test's long ways are among them.
func (o *layout) over(at int) (int, int) {
	n := o.nodes[at]
	behind := o.first[at+1] - o.long[at].many()
	return o.first[n.T] - behind, o.first[n.F] - behind
}
