package decision

import (
	"slices"

	"ravelin/api"
)

// list lays the nodes that can be come to from the root: the one that is left last stands first, so that each one leads on ahead.
func (m *maker) list(root int) []api.Node {
	met := make([]bool, len(m.made))
	var left []int
	var visit func(at int)
	visit = func(at int) {
		if met[at] {
			return
		}
		met[at] = true
		if n := m.made[at]; !n.Leaf {
			visit(n.T)
			visit(n.F)
		}
		left = append(left, at)
	}
	visit(root)
	slices.Reverse(left)
	return m.placed(left)
}

// placed are nodes that are given by their numbers, with the places of what they lead to.
func (m *maker) placed(order []int) []api.Node {
	places := make([]int, len(m.made))
	for place, at := range order {
		places[at] = place
	}
	l := make([]api.Node, len(order))
	for place, at := range order {
		n := m.made[at]
		if !n.Leaf {
			n.T, n.F = places[n.T], places[n.F]
		}
		l[place] = n
	}
	return l
}
