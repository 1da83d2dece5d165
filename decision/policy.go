package decision

import (
	"maps"
	"slices"

	"ravelin/api"
	"ravelin/sem"
)

// root is the node that a policy that is well formed begins with.
func (m *maker) root(p api.Policy) int {
	foreign, other := m.leaf(p.Foreign), m.leaf(p.Default)
	chains := m.chains(p, other)
	maps.DeleteFunc(chains, func(_ uint32, chain int) bool { return chain == other })
	found := m.search(slices.Sorted(maps.Keys(chains)), chains, other)
	arch, _ := sem.Arch(p.Arch)
	return m.ask(question{archAt, allBits, api.NodeEq, arch}, found, foreign)
}

// chains are the nodes that the rules make of each number that one of them has. Each rule is gone through once, for all its numbers: one after the other would be slow where many have many rules.
func (m *maker) chains(p api.Policy, other int) map[uint32]int {
	chains := map[uint32]int{}
	for _, r := range slices.Backward(p.Rules) {
		m.addRule(p.Arch, r, chains, other)
	}
	return chains
}

// addRule puts a rule ahead of what came so far of its numbers; what came of several of them is told once.
func (m *maker) addRule(arch string, r api.Rule, chains map[uint32]int, other int) {
	when, do := simple(r.When), m.leaf(r.Do)
	made := map[int]int{}
	for _, c := range r.Calls {
		if m.large {
			return
		}
		n := numberOf(arch, c)
		came, is := chains[n]
		if !is {
			came = other
		}
		if _, is := made[came]; !is {
			made[came] = m.told(when, do, came)
		}
		chains[n] = made[came]
	}
}

// numberOf is the number of a call of a policy that is well formed.
func numberOf(arch string, c api.Call) uint32 {
	if c.Name == "" {
		return uint32(c.Nr)
	}
	n, _ := sem.Number(arch, c.Name)
	return n
}

// search is the node that finds the data's number among rising ones, half by half, and goes on to its chain, or to another one.
func (m *maker) search(numbers []uint32, chains map[uint32]int, other int) int {
	switch len(numbers) {
	case 0:
		return other
	case 1:
		return m.ask(question{nrAt, allBits, api.NodeEq, numbers[0]}, chains[numbers[0]], other)
	}
	half := len(numbers) / 2
	above := m.search(numbers[half:], chains, other)
	below := m.search(numbers[:half], chains, other)
	return m.ask(question{nrAt, allBits, api.NodeGe, numbers[half]}, above, below)
}
