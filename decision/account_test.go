package decision_test

import (
	"fmt"
	"slices"
	"strconv"

	"ravelin/api"
)

// full is a mask of a word that lets all bits through.
const full = 0xffffffff

// bare is an expression with the fields alone that its operations name.
func bare(e api.Expr) api.Expr {
	if e.Op == 6 {
		return test(e.Field, e.Mask, e.Rel, e.Value)
	}
	b := with(e.Op)
	for _, arg := range e.Args {
		b.Args = append(b.Args, bare(arg))
	}
	return b
}

// simpleByHand rewrites an expression, a little at a time and wherever it can, till nothing is left to do.
func simpleByHand(e api.Expr) api.Expr {
	e = bare(e)
	for rewrite(&e) {
	}
	return e
}

// rewrite does one of the small things that may be done at an expression, if there is one.
func rewrite(e *api.Expr) bool {
	for i := range e.Args {
		if rewrite(&e.Args[i]) {
			return true
		}
	}
	switch e.Op {
	case 3:
		if op := e.Args[0].Op; op < 3 {
			*e = with(3 - op)
			return true
		}
	case 4, 5:
		return rewriteSome(e)
	case 6:
		for op, rels := range map[api.ExprOp][2]api.Rel{1: {6, 4}, 2: {3, 5}} {
			if e.Rel == rels[0] && e.Value == 0 || e.Rel == rels[1] && e.Value == e.Mask {
				*e = with(op)
				return true
			}
		}
	}
	return false
}

// rewriteSome does one of these at several arguments.
func rewriteSome(e *api.Expr) bool {
	idle, rules := e.Op-3, 6-e.Op
	for i, arg := range e.Args {
		switch arg.Op {
		case rules:
			*e = arg
			return true
		case idle:
			e.Args = slices.Delete(e.Args, i, i+1)
			return true
		}
	}
	switch len(e.Args) {
	case 0:
		*e = with(idle)
		return true
	case 1:
		*e = e.Args[0]
		return true
	}
	return false
}

// account is a decision by the chapter's words: nodes by their spellings, in which those that they lead to stand as numbers.
type account struct {
	spellings map[string]int
	nodes     []api.Node
}

// spelled is the number of a node, from 1 on.
func (a *account) spelled(n api.Node) int {
	s := fmt.Sprint(n)
	if a.spellings[s] == 0 {
		a.nodes = append(a.nodes, n)
		a.spellings[s] = len(a.nodes)
	}
	return a.spellings[s]
}

func (a *account) leaf(v api.Verdict) int {
	begin := []uint32{0, 0x80000000, 0, 0x00030000, 0x00050000, 0x7fc00000, 0x7ff00000, 0x7ffc0000, 0x7fff0000}
	return a.spelled(api.Node{Leaf: true, Word: begin[v.Kind] + uint32(v.Data)})
}

// ask makes a test, if words say different things of it: it tries the least one, the greatest one, and what it is held against.
func (a *account) ask(off int, m uint32, op api.NodeOp, k uint32, t, f int) int {
	so := 0
	for _, w := range []uint32{0, full, k} {
		if holdsOfWord(op, w&m, k) {
			so++
		}
	}
	switch {
	case t == f || so == 3:
		return t
	case so == 0:
		return f
	case op == 1 && k == 0 && m < full:
		return a.spelled(api.Node{Off: off, Mask: full, Op: 4, K: m, T: f, F: t})
	}
	return a.spelled(api.Node{Off: off, Mask: m, Op: op, K: k, T: t, F: f})
}

// holdsOfWord: is a word as an operation says?
func holdsOfWord(op api.NodeOp, w, k uint32) bool {
	return []bool{false, w == k, w > k, w >= k, w&k > 0}[op]
}

// whole is a test of a field.
func (a *account) whole(e api.Expr, t, f int) int {
	low := []int{16, 24, 32, 40, 48, 56, 8}[e.Field]
	lm, hm, lv, hv := uint32(e.Mask), uint32(e.Mask>>32), uint32(e.Value), uint32(e.Value>>32)
	if e.Rel == api.RelNe || e.Rel == api.RelLt || e.Rel == api.RelLe {
		t, f = f, t
	}
	switch e.Rel {
	case api.RelEq, api.RelNe:
		return a.ask(low+4, hm, 1, hv, a.ask(low, lm, 1, lv, t, f), f)
	case api.RelGe, api.RelLt:
		return a.ask(low+4, hm, 2, hv, t, a.ask(low+4, hm, 1, hv, a.ask(low, lm, 3, lv, t, f), f))
	}
	return a.ask(low+4, hm, 2, hv, t, a.ask(low+4, hm, 1, hv, a.ask(low, lm, 2, lv, t, f), f))
}

// told is a simple expression; of several arguments the first one is told with what comes of those behind it.
func (a *account) told(e api.Expr, t, f int) int {
	if t == f || e.Op == 1 {
		return t
	}
	switch e.Op {
	case 2:
		return f
	case 3:
		return a.told(e.Args[0], f, t)
	case 6:
		return a.whole(e, t, f)
	}
	if len(e.Args) == 0 {
		return []int{4: t, 5: f}[e.Op]
	}
	behind := a.told(with(e.Op, e.Args[1:]...), t, f)
	if e.Op == 4 {
		return a.told(e.Args[0], behind, f)
	}
	return a.told(e.Args[0], t, behind)
}

// numberByHand is the number of a call; of names a few are known.
func numberByHand(p api.Policy, c api.Call) uint64 {
	old := map[string]uint64{"read": 0, "write": 1, "close": 3, "openat": 257, "bpf": 321}
	shared := map[string]uint64{"read": 63, "write": 64, "close": 57, "openat": 56, "bpf": 280}
	switch {
	case c.Name == "":
		return c.Nr
	case p.Arch == "x86_64":
		return old[c.Name]
	}
	return shared[c.Name]
}

// chain is what the rules from a place on say of a number.
func (a *account) chain(p api.Policy, from int, n uint64) int {
	if from == len(p.Rules) {
		return a.leaf(p.Default)
	}
	behind := a.chain(p, from+1, n)
	for _, c := range p.Rules[from].Calls {
		if numberByHand(p, c) == n {
			return a.told(simpleByHand(p.Rules[from].When), a.leaf(p.Rules[from].Do), behind)
		}
	}
	return behind
}

// numbersByHand are those that some rule has, by rising.
func numbersByHand(p api.Policy) []uint64 {
	var l []uint64
	for _, r := range p.Rules {
		for _, c := range r.Calls {
			l = append(l, numberByHand(p, c))
		}
	}
	slices.Sort(l)
	return slices.Compact(l)
}

func (a *account) search(numbers []uint64, chains map[uint64]int, d int) int {
	n := len(numbers)
	if n == 0 {
		return d
	}
	if n == 1 {
		return a.ask(0, full, 1, uint32(numbers[0]), chains[numbers[0]], d)
	}
	below, above := numbers[:n/2], numbers[n/2:]
	return a.ask(0, full, 3, uint32(above[0]), a.search(above, chains, d), a.search(below, chains, d))
}

// buildByHand is the list of a policy that is well formed, and how many nodes are made.
func buildByHand(p api.Policy) ([]api.Node, int) {
	a := &account{spellings: map[string]int{}}
	d := a.leaf(p.Default)
	var numbers []uint64
	chains := map[uint64]int{}
	for _, n := range numbersByHand(p) {
		if c := a.chain(p, 0, n); c != d {
			numbers = append(numbers, n)
			chains[n] = c
		}
	}
	word := map[string]uint32{"x86_64": 0xc000003e, "riscv64": 0xc00000f3, "aarch64": 0xc00000b7}[p.Arch]
	root := a.ask(4, full, 1, word, a.search(numbers, chains, d), a.leaf(p.Foreign))
	return a.listed(root), len(a.nodes)
}

// listed goes through the nodes by a list of what is still to do: to come to a node, or (as a number below 0) to leave it.
func (a *account) listed(root int) []api.Node {
	var left []int
	met := map[int]bool{}
	for todo := []int{root}; len(todo) > 0; {
		at := todo[len(todo)-1]
		todo = todo[:len(todo)-1]
		if at < 0 {
			left = append(left, -at)
		} else if !met[at] {
			met[at] = true
			todo = append(todo, -at)
			if n := a.nodes[at-1]; !n.Leaf {
				todo = append(todo, n.F, n.T)
			}
		}
	}
	var l []api.Node
	for i := range left {
		n := a.nodes[left[len(left)-1-i]-1]
		if !n.Leaf {
			n.T = len(left) - 1 - slices.Index(left, n.T)
			n.F = len(left) - 1 - slices.Index(left, n.F)
		}
		l = append(l, n)
	}
	return l
}

// checkByHand is what is wrong with nodes, and where; what is right of a node is looked up in texts.
func checkByHand(l []api.Node) (api.Errno, int) {
	if len(l) < 1 || len(l) > 4096 {
		return 83, 0
	}
	offs := []string{"0", "4", "8", "12", "16", "20", "24", "28", "32", "36", "40", "44", "48", "52", "56", "60"}
	for i, n := range l {
		if n.Leaf {
			continue
		}
		if !slices.Contains(offs, strconv.Itoa(n.Off)) || !slices.Contains([]string{"1", "2", "3", "4"}, strconv.Itoa(int(n.Op))) {
			return 84, i
		}
		if min(n.T, n.F) <= i || max(n.T, n.F) > len(l)-1 {
			return 85, i
		}
	}
	return 0, 0
}

// wordByHand is the data's word at a place.
func wordByHand(d api.Data, off int) uint32 {
	switch off {
	case 0:
		return d.Nr
	case 4:
		return d.Arch
	}
	v := []uint64{d.IP, d.Args[0], d.Args[1], d.Args[2], d.Args[3], d.Args[4], d.Args[5]}[off/8-1]
	if off%8 == 4 {
		v >>= 32
	}
	return uint32(v)
}

// runByHand is the word of the leaf that is come to from a place on, and how many nodes are.
func runByHand(l []api.Node, at int, d api.Data) (uint32, int) {
	n := l[at]
	if n.Leaf {
		return n.Word, 1
	}
	to := n.F
	if holdsOfWord(n.Op, wordByHand(d, n.Off)&n.Mask, n.K) {
		to = n.T
	}
	w, more := runByHand(l, to, d)
	return w, more + 1
}

// depthByHand is how many nodes the longest of all ways from a place has; of small lists alone.
func depthByHand(l []api.Node, at int) int {
	if l[at].Leaf {
		return 1
	}
	return 1 + max(depthByHand(l, l[at].T), depthByHand(l, l[at].F))
}
