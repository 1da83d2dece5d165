package mir

import "ravelin/api"

// Where the words of a program live.
const (
	regA     = iota // A
	regX            // X
	regK            // a constant, for the instructions that are made of one of the program's alone
	regM            // the first scratch word; the others are behind it
	regCount = regM + api.Scratch
)

// builder puts a Mir together: instructions, and the places to which they lead.
type builder struct {
	body
	aims
}

// body are the instructions that are laid.
type body struct{ l []api.Ir }

func (b *body) lay(x api.Ir) { b.l = append(b.l, x) }

// next is where the next one is going to stand.
func (b *body) next() int { return len(b.l) }

func (b *body) move(d, from int) { b.lay(api.Ir{Op: api.MirMove, D: d, A: from}) }

func (b *body) constant(d int, k uint32) { b.lay(api.Ir{Op: api.MirConst, D: d, K: k}) }

// aims are targets that can't be told as long as what they lead to is not laid.
type aims struct {
	begins []int // by the program's places: where what is made of an instruction begins
	open   []int // the instructions whose targets are still the program's places
}

func (a *aims) begin(at int) { a.begins = append(a.begins, at) }

func (a *aims) leaveOpen(at int) { a.open = append(a.open, at) }

// settle tells the targets that were left open: all of the program is laid. An F that is not named is 0, and stays it: the first one begins at 0.
func (a *aims) settle(l []api.Ir) {
	for _, at := range a.open {
		x := &l[at]
		x.T, x.F = a.begins[x.T], a.begins[x.F]
	}
}

// lead lays a jump whose targets are the program's places.
func (b *builder) lead(x api.Ir) {
	b.leaveOpen(b.next())
	b.lay(x)
}

// build makes a Mir of an accepted program.
func build(q []api.Insn) api.Mir {
	var b builder
	for at, in := range q {
		b.begin(b.next())
		b.translate(in, at)
	}
	b.settle(b.l)
	return api.Mir{Regs: regCount, L: b.l}
}
