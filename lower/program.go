package lower

import "ravelin/api"

// program is instructions that are laid one behind the other.
type program struct{ l []api.Insn }

func (p *program) lay(in api.Insn) { p.l = append(p.l, in) }

// emit is the program of a decision that is laid out.
func (o *layout) emit() []api.Insn {
	p := program{make([]api.Insn, 0, o.size())}
	lay := p.lay
	for at := range o.nodes {
		o.layNode(at, lay)
	}
	return p.l
}

func (o *layout) layNode(at int, lay func(api.Insn)) {
	n := o.nodes[at]
	if n.Leaf {
		lay(api.Insn{Code: api.Ret, K: n.Word})
		return
	}
	lay(api.Insn{Code: api.Ld | api.Abs, K: uint32(n.Off)})
	if n.Mask != allBits {
		lay(api.Insn{Code: api.Alu | api.And, K: n.Mask})
	}
	o.layJump(at, lay)
}

// layJump lays a test's jump and its long ways, T's first. A way that has one goes over the long ways ahead of that alone.
func (o *layout) layJump(at int, lay func(api.Insn)) {
	n, long := o.nodes[at], o.long[at]
	overT, overF := o.over(at)
	jumpT, jumpF := overT, overF
	if long.t {
		jumpT = 0
	}
	if long.f {
		jumpF = long.many() - 1
	}
	lay(api.Insn{Code: jumpCode(n.Op), Jt: uint8(jumpT), Jf: uint8(jumpF), K: n.K})
	if long.t {
		lay(longWay(overT - 1))
	}
	if long.f {
		lay(longWay(overF - long.many()))
	}
}

// longWay goes over any number of instructions.
func longWay(over int) api.Insn { return api.Insn{Code: api.Jmp | api.Ja, K: uint32(over)} }

// jumpCode is the Code of the jump of a test's operation.
func jumpCode(op api.NodeOp) uint16 {
	switch op {
	case api.NodeEq:
		return api.Jmp | api.Jeq
	case api.NodeGt:
		return api.Jmp | api.Jgt
	case api.NodeGe:
		return api.Jmp | api.Jge
	}
	return api.Jmp | api.Jset
}
