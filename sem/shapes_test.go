package sem_test

import (
	"slices"

	"ravelin/api"
)

// random are numbers that follow no shape, the same ones at each run.
type random uint64

func (r *random) next() uint64 {
	*r = *r*6364136223846793005 + 1442695040888963407
	return uint64(*r ^ *r>>29)
}

// below is a number from 0 to n - 1.
func (r *random) below(n int) int { return int(r.next() >> 33 % uint64(n)) }

// number is one of a few, or an edge, or of any size.
func (r *random) number() uint64 {
	switch r.below(4) {
	case 0:
		return r.next()<<32 ^ r.next()
	case 1:
		l := edges()
		return l[r.below(len(l))]
	}
	return uint64(r.below(4))
}

// edges are numbers around which something may change, some of which a narrower number, or one with a sign, would take for another.
func edges() []uint64 {
	return []uint64{0, 1, 2, 3, 4, 255, 256, 4094, 4095, 4096, 4097, 8191, 65534, 65535, 65536, 65537, 1<<31 - 1, 1 << 31, 1<<32 - 1, 1 << 32, 1<<32 + 1, 1<<32 + 4095, 1<<63 - 1, 1 << 63, 1<<63 + 1, 1<<64 - 2, 1<<64 - 1}
}

// with is an expression of others.
func with(op api.ExprOp, args ...api.Expr) api.Expr { return api.Expr{Op: op, Args: args} }

// test is one of a field.
func test(field int, mask uint64, rel api.Rel, value uint64) api.Expr {
	return api.Expr{Op: 6, Field: field, Mask: mask, Rel: rel, Value: value}
}

// nest is an expression within so many others, of the kinds that a text names: n is not, a is and, o is or, in which it stands behind another one.
func nest(kinds string, times int, e api.Expr) api.Expr {
	for i := range times {
		switch kinds[i%len(kinds)] {
		case 'n':
			e = with(3, e)
		case 'a':
			e = with(4, api.Expr{Op: 1}, e)
		case 'o':
			e = with(5, api.Expr{Op: 2}, e)
		}
	}
	return e
}

// test is one that may be.
func (r *random) test() api.Expr {
	e := test(r.below(7), whole, api.Rel(1+r.below(6)), r.number())
	if r.below(2) == 0 {
		e.Mask = max(1, r.number())
		e.Value &= e.Mask
	}
	return e
}

// expr is one that may be, of at most some depth; in fields that are not named there may be anything.
func (r *random) expr(depth int) api.Expr {
	op := api.ExprOp(1 + r.below(9))
	if op > 6 || depth == 0 && op > 2 {
		return r.test()
	}
	e := api.Expr{Op: op}
	if r.below(3) == 0 {
		e.Field, e.Mask, e.Rel, e.Value = r.below(20)-8, r.number(), api.Rel(r.below(20)-8), r.number()
	}
	switch op {
	case 3:
		e.Args = []api.Expr{r.expr(depth - 1)}
	case 4, 5:
		for range 2 + r.below(3) {
			e.Args = append(e.Args, r.expr(depth-1))
		}
	case 6:
		return r.test()
	}
	return e
}

// spoiled changes one thing at some of the expressions in one; it may still be one that may be.
func (r *random) spoiled(e api.Expr) api.Expr {
	e.Args = slices.Clone(e.Args)
	for i := range e.Args {
		if r.below(2) == 0 {
			e.Args[i] = r.spoiled(e.Args[i])
		}
	}
	switch r.below(12) {
	case 0:
		e.Op = api.ExprOp(r.below(12) - 2)
	case 1:
		e.Args = e.Args[:len(e.Args)/2]
	case 2:
		e.Args = append(e.Args, r.test())
	case 3:
		e.Field = r.below(12) - 2
	case 4:
		e.Mask = 0
	case 5:
		e.Rel = api.Rel(r.below(12) - 2)
	case 6:
		e.Value = r.number()
	case 7:
		e.Mask &= r.number()
	}
	return e
}

// verdict is one that may be.
func (r *random) verdict() api.Verdict {
	v := api.Verdict{Kind: api.ActionKind(1 + r.below(8))}
	if v.Kind == 3 || v.Kind == 4 || v.Kind == 6 {
		v.Data = r.number() & 4095
	}
	return v
}

// calls are some that a rule may have: names, and numbers that some names have too.
func (r *random) calls(arch string) []api.Call {
	names, numbers := namesByHand(arch)
	var l []api.Call
	var met []uint32
	for range 1 + r.below(5) {
		name := names[r.below(min(6, len(names)))]
		c, n := api.Call{Name: name}, numbers[name]
		switch r.below(4) {
		case 0:
			c = api.Call{Nr: uint64(n)}
		case 1:
			n = uint32(r.number())
			c = api.Call{Nr: uint64(n)}
		}
		if !slices.Contains(met, n) {
			l, met = append(l, c), append(met, n)
		}
	}
	return l
}

// arch is the name of an architecture.
func (r *random) arch() string { return []string{"x86_64", "riscv64", "aarch64"}[r.below(3)] }

// policy is one that is well formed.
func (r *random) policy(rules, depth int) api.Policy {
	p := api.Policy{Arch: r.arch(), Foreign: r.verdict(), Default: r.verdict()}
	for range rules {
		p.Rules = append(p.Rules, r.rule(p.Arch, depth))
	}
	return p
}

// rule is one of a policy that is well formed.
func (r *random) rule(arch string, depth int) api.Rule {
	return api.Rule{Calls: r.calls(arch), When: r.expr(depth), Do: r.verdict()}
}

// data are such that a policy may say something of them.
func (r *random) data(p api.Policy) api.Data {
	d := api.Data{Nr: uint32(r.number()), Arch: archsByHand()[p.Arch], IP: r.number()}
	for i := range d.Args {
		d.Args[i] = r.number()
	}
	if r.below(8) == 0 {
		d.Arch = []uint32{0, 0xc000003e, 0xc00000f3, 0xc00000b7, ^d.Arch, d.Arch + 1}[r.below(6)]
	}
	if len(p.Rules) > 0 && r.below(4) > 0 {
		x := p.Rules[r.below(len(p.Rules))]
		_, numbers := namesByHand(p.Arch)
		c := x.Calls[r.below(len(x.Calls))]
		d.Nr = uint32(c.Nr) + numbers[c.Name]
		r.near(x.When, &d)
	}
	return d
}

// near lays the fields that an expression tests near what they are held against.
func (r *random) near(e api.Expr, d *api.Data) {
	for _, arg := range e.Args {
		r.near(arg, d)
	}
	if e.Op != 6 {
		return
	}
	v := e.Value | r.number()&^e.Mask
	v += uint64(r.below(3)) - 1
	if e.Field == 6 {
		d.IP = v
	} else {
		d.Args[e.Field] = v
	}
}

// copied shares no memory with an expression.
func copied(e api.Expr) api.Expr {
	e.Args = slices.Clone(e.Args)
	for i := range e.Args {
		e.Args[i] = copied(e.Args[i])
	}
	return e
}

// copiedPolicy shares no memory with a policy.
func copiedPolicy(p api.Policy) api.Policy {
	p.Rules = slices.Clone(p.Rules)
	for i := range p.Rules {
		p.Rules[i].Calls = slices.Clone(p.Rules[i].Calls)
		p.Rules[i].When = copied(p.Rules[i].When)
	}
	return p
}
