package decision_test

import (
	"math"
	"slices"

	"ravelin/api"
)

// random are numbers that follow no shape, the same ones at each run.
type random uint64

func (r *random) next() uint64 {
	*r = *r*6364136223846793005 + 1442695040888963407
	return uint64(*r ^ *r>>29)
}

// below is a number from 0 to n - 1.
func (r *random) below(n int) int { return int(r.next() >> 33 % uint64(n)) }

// number is one of a few, or an edge, or of any size; its halves may be alike.
func (r *random) number() uint64 {
	switch r.below(5) {
	case 0:
		return r.next()<<32 ^ r.next()
	case 1:
		l := edges()
		return l[r.below(len(l))]
	case 2:
		return uint64(r.below(4)) * (1<<32 + 1)
	}
	return uint64(r.below(4))
}

// edges are numbers around which something may change, of one half or of both.
func edges() []uint64 {
	return []uint64{0, 1, 2, 0x7fffffff, 0x80000000, 0xfffffffe, 0xffffffff, 1 << 32, 1<<32 + 1, 0x1ffffffff, 2 << 32, 0x7fffffff00000000, 0x7fffffffffffffff, 1 << 63, 0xfffffffe00000000, 0xffffffff00000000, math.MaxUint64 - 1, math.MaxUint64}
}

// with is an expression of others.
func with(op api.ExprOp, args ...api.Expr) api.Expr { return api.Expr{Op: op, Args: args} }

// test is one of a field.
func test(field int, mask uint64, rel api.Rel, value uint64) api.Expr {
	return api.Expr{Op: 6, Field: field, Mask: mask, Rel: rel, Value: value}
}

// nested is an expression within so many ExprNot.
func nested(times int, e api.Expr) api.Expr {
	for range times {
		e = with(3, e)
	}
	return e
}

// test is one that may be; of few fields, so that some are alike.
func (r *random) test() api.Expr {
	e := test([]int{0, 0, 0, 1, 5, 6}[r.below(6)], math.MaxUint64, api.Rel(1+r.below(6)), r.number())
	if r.below(2) == 0 {
		e.Mask = max(1, r.number())
	}
	switch e.Value &= e.Mask; r.below(6) {
	case 0:
		e.Value = 0
	case 1:
		e.Value = e.Mask
	}
	return e
}

// expr is one that may be, of at most some depth; in fields that are not named there may be anything.
func (r *random) expr(depth int) api.Expr {
	op := api.ExprOp(1 + r.below(9))
	if op >= 6 || depth == 0 && op > 2 {
		return r.test()
	}
	e := api.Expr{Op: op}
	if r.below(3) == 0 {
		e.Field, e.Mask, e.Rel, e.Value = r.below(20)-8, r.number(), api.Rel(r.below(20)-8), r.number()
	}
	switch op {
	case 3:
		e.Args = []api.Expr{r.expr(depth - 1)}
	case 4, 5:
		for range 2 + r.below(3) {
			e.Args = append(e.Args, r.expr(depth-1))
		}
	}
	return e
}

// verdict is one that may be, mostly one of a few.
func (r *random) verdict() api.Verdict {
	v := api.Verdict{Kind: []api.ActionKind{1, 8, 4, 4, 2, 3, 5, 6, 7}[r.below(9)]}
	if v.Kind == 3 || v.Kind == 4 || v.Kind == 6 {
		v.Data = uint64(r.below(2))
		if r.below(8) == 0 {
			v.Data = []uint64{2, 255, 256, 4095}[r.below(4)]
		}
	}
	return v
}

// calls are some that a rule may have: names, numbers that they have too, and numbers alone.
func (r *random) calls(p api.Policy, most int) []api.Call {
	var l []api.Call
	var met []uint64
	for range 1 + r.below(most) {
		c := api.Call{Name: []string{"read", "write", "close", "openat", "bpf"}[r.below(5)]}
		switch r.below(3) {
		case 0:
			c = api.Call{Nr: numberByHand(p, c)}
		case 1:
			c = api.Call{Nr: uint64(r.below(2 * most))}
			if r.below(4) == 0 {
				c.Nr = r.number() & full
			}
		}
		if n := numberByHand(p, c); !slices.Contains(met, n) {
			l, met = append(l, c), append(met, n)
		}
	}
	return l
}

// policy is one that is well formed.
func (r *random) policy(rules, calls, depth int) api.Policy {
	p := api.Policy{Arch: []string{"x86_64", "riscv64", "aarch64"}[r.below(3)], Foreign: r.verdict(), Default: r.verdict()}
	for range rules {
		x := api.Rule{Calls: r.calls(p, calls), When: r.expr(depth), Do: r.verdict()}
		if r.below(4) == 0 {
			x.When = with(1)
		}
		p.Rules = append(p.Rules, x)
	}
	return p
}

// data are such that a policy may say something of them.
func (r *random) data(p api.Policy) api.Data {
	d := api.Data{Nr: uint32(r.number()), Arch: map[string]uint32{"x86_64": 0xc000003e, "riscv64": 0xc00000f3, "aarch64": 0xc00000b7}[p.Arch], IP: r.number()}
	for i := range d.Args {
		d.Args[i] = r.number()
	}
	if r.below(8) == 0 {
		d.Arch = []uint32{0, 0xc000003e, 0xc00000f3, 0xc00000b7, ^d.Arch, d.Arch + 1, d.Arch - 1}[r.below(7)]
	}
	if len(p.Rules) > 0 {
		x := p.Rules[r.below(len(p.Rules))]
		d.Nr = uint32(numberByHand(p, x.Calls[r.below(len(x.Calls))]))
		if r.below(8) == 0 {
			d.Nr += uint32(r.below(3)) - 1
		}
		r.near(x.When, &d)
	}
	return d
}

// near lays some of the fields that an expression tests near what they are held against, in one half or in both.
func (r *random) near(e api.Expr, d *api.Data) {
	for _, arg := range e.Args {
		r.near(arg, d)
	}
	if e.Op != 6 || r.below(4) == 0 {
		return
	}
	v := e.Value | r.number()&^e.Mask
	v += uint64(r.below(3)-1) + uint64(r.below(3)-1)<<32
	if e.Field == 6 {
		d.IP = v
	} else {
		d.Args[e.Field] = v
	}
}

// words are data of any words at all, many of them the same few.
func (r *random) words() api.Data {
	d := api.Data{Nr: uint32(r.number()), Arch: uint32(r.number()), IP: r.number()}
	for i := range d.Args {
		d.Args[i] = r.number()
	}
	return d
}

// nodes are a decision that no policy need have; in fields that are not used there may be anything.
func (r *random) nodes(n int) []api.Node {
	l := make([]api.Node, n, n+r.below(3))
	for i := range l {
		x := api.Node{Word: uint32(r.number()), Off: 4 * r.below(16), Mask: uint32(r.number()), Op: api.NodeOp(1 + r.below(4)), K: uint32(r.number())}
		if i+1 == n || r.below(5) == 0 {
			x.Leaf, x.Off, x.Op, x.T, x.F = true, r.below(200)-100, api.NodeOp(r.below(20)-8), r.below(2*n)-n, r.below(2*n)-n
		} else {
			x.T, x.F = i+1+r.below(n-i-1), i+1+r.below(n-i-1)
		}
		if r.below(3) == 0 {
			x.Mask = full
		}
		l[i] = x
	}
	return l
}

// copied shares no memory with an expression.
func copied(e api.Expr) api.Expr {
	e.Args = slices.Clone(e.Args)
	for i := range e.Args {
		e.Args[i] = copied(e.Args[i])
	}
	return e
}

// copiedPolicy shares no memory with a policy.
func copiedPolicy(p api.Policy) api.Policy {
	p.Rules = slices.Clone(p.Rules)
	for i := range p.Rules {
		p.Rules[i].Calls = slices.Clone(p.Rules[i].Calls)
		p.Rules[i].When = copied(p.Rules[i].When)
	}
	return p
}
