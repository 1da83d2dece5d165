package decision

import "ravelin/api"

// nodeFault is what is wrong with a node at a place of so many.
func nodeFault(n api.Node, at, many int) api.Errno {
	switch {
	case n.Leaf:
		return api.OK
	case !isOff(n.Off) || !isOp(n.Op):
		return api.ErrDecisionNode
	case !isAhead(n.T, at, many) || !isAhead(n.F, at, many):
		return api.ErrDecisionWay
	}
	return api.OK
}

func isOff(off int) bool { return off >= 0 && off < api.DataLen && off%wordLen == 0 }

func isOp(op api.NodeOp) bool { return op >= api.NodeEq && op <= api.NodeSet }

func isAhead(way, at, many int) bool { return way > at && way < many }

// way is where a test leads to.
func (w *words) way(n api.Node) int {
	if isSo(n, w[n.Off/wordLen]&n.Mask) {
		return n.T
	}
	return n.F
}

// isSo: is a word, of which the mask's bits are left, as a test says?
func isSo(n api.Node, w uint32) bool {
	switch n.Op {
	case api.NodeEq:
		return w == n.K
	case api.NodeGt:
		return w > n.K
	case api.NodeGe:
		return w >= n.K
	}
	return w&n.K != 0
}

// longest is how many nodes the longest way from the root has. Each node leads on ahead, so they are gone through from the last to the first.
func longest(l []api.Node) int {
	from := make([]int, len(l))
	for at := len(l) - 1; at >= 0; at-- {
		from[at] = 1
		if n := l[at]; !n.Leaf {
			from[at] += max(from[n.T], from[n.F])
		}
	}
	return from[0]
}
