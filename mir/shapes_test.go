package mir_test

import (
	"math"

	"ravelin/api"
)

// random are numbers that follow no shape, the same ones at each run.
type random uint64

func (r *random) next() uint32 {
	*r = *r*6364136223846793005 + 1442695040888963407
	return uint32(*r>>32 ^ *r>>59)
}

// below is a number from 0 to n - 1.
func (r *random) below(n int) int { return int(r.next()>>1) % n }

// edges are words of all shapes.
func edges() []uint32 {
	return []uint32{0, 1, 2, 3, 7, 31, 32, 33, 63, 64, 65, 255, 256, 0xffff, 0x10000, 0x12345678, 0x55555555, 0x7fffffff, 0x80000000, 0x80000001, 0xaaaaaaaa, 0xffffffe0, 0xfffffffe, 0xffffffff}
}

// ints are numbers of all shapes, beside those around so many.
func ints(around ...int) []int {
	l := []int{math.MinInt, math.MinInt + 1, math.MinInt32, -65536, -64, -2, -1, 0, 1, 2, 63, 64, 65, 65535, 65536, math.MaxInt32, 1 << 32, 1<<32 + 1, math.MaxInt - 1, math.MaxInt}
	for _, n := range around {
		l = append(l, n-2, n-1, n, n+1, n+2)
	}
	return l
}

// word is one of all shapes, or one of a few.
func (r *random) word() uint32 {
	switch r.below(4) {
	case 0:
		return r.next()
	case 1:
		return edges()[r.below(len(edges()))]
	}
	return uint32(r.below(4))
}

// data are 64 bytes, put together of such words.
func (r *random) data() []byte {
	var words [16]uint32
	for i := range words {
		words[i] = r.word()
	}
	return dataOf(words[:]...)
}

// dataOf are 64 bytes whose first words are these.
func dataOf(words ...uint32) []byte {
	b := make([]byte, 64)
	for i, w := range words {
		for j := range 4 {
			b[4*i+j] = byte(w >> (8 * j))
		}
	}
	return b
}

// right is an instruction that may stand there, in a Mir of so many. In fields that its row does not name there may be anything.
func (r *random) right(op api.MirOp, regs, at, n int) api.Ir {
	x := api.Ir{Op: op, D: r.any(), A: r.any(), B: r.any(), K: r.word(), T: r.any(), F: r.any()}
	set := func(field string, to *int, from, below int) {
		if names(op, field) {
			*to = from + r.below(below-from)
		}
	}
	set("D", &x.D, 0, regs)
	set("A", &x.A, 0, regs)
	set("B", &x.B, 0, regs)
	set("T", &x.T, at+1, min(n, at+6))
	set("F", &x.F, at+1, min(n, at+6))
	if names(op, "W") {
		x.K = 4 * uint32(r.below(16))
	}
	return x
}

// any is a number of all shapes.
func (r *random) any() int { return ints()[r.below(len(ints()))] }

// mir is one that is right: loads first, some of them, then anything.
func (r *random) mir(regs, n int) api.Mir {
	p := api.Mir{Regs: regs, L: make([]api.Ir, n, n+r.below(3))}
	for at := range p.L {
		op := api.MirOp(1 + r.below(18))
		switch {
		case at == n-1:
			op = 19
		case at < regs && r.below(3) > 0:
			op = 3
		case op == 7 && r.below(3) > 0:
			op = 4
		case r.below(40) == 0:
			op = 19
		}
		p.L[at] = r.right(op, regs, at, n)
	}
	return p
}

// theOperations are the Codes of layer 3's table, by their numbers.
func theOperations() []uint16 {
	return []uint16{
		0x20, 0x80, 0x81, 0x00, 0x01, 0x60, 0x61, 0x02, 0x03,
		0x04, 0x14, 0x24, 0x34, 0x44, 0x54, 0x64, 0x74, 0xa4,
		0x0c, 0x1c, 0x2c, 0x3c, 0x4c, 0x5c, 0x6c, 0x7c, 0xac,
		0x84, 0x05, 0x15, 0x25, 0x35, 0x45, 0x1d, 0x2d, 0x3d, 0x4d,
		0x06, 0x16, 0x07, 0x87,
	}
}

// shape is how a program is: how far its jumps go, how many of twelve instructions are jumps, and ends.
type shape struct{ far, jumps, ends int }

// program is one that is accepted. In fields that an operation does not ask for there may be anything.
func (r *random) program(n int, s shape) []api.Insn {
	q := make([]api.Insn, n, n+r.below(3))
	for at := range q {
		behind := n - 1 - at
		code := theOperations()[r.below(41)]
		switch x := r.below(12); {
		case behind == 0, x < s.ends:
			code = []uint16{0x06, 0x16}[r.below(2)]
		case x < s.ends+s.jumps:
			code = []uint16{0x05, 0x15, 0x25, 0x35, 0x45, 0x1d, 0x2d, 0x3d, 0x4d}[r.below(9)]
		default:
			for code&7 == 5 || code&7 == 6 {
				code = theOperations()[r.below(41)]
			}
		}
		q[at] = r.insn(code, min(s.far, behind))
	}
	return q
}

// insn is an instruction that may stand ahead of so many others.
func (r *random) insn(code uint16, far int) api.Insn {
	in := api.Insn{Code: code, Jt: uint8(r.next()), Jf: uint8(r.next()), K: r.word()}
	switch code {
	case 0x05:
		in.K = uint32(r.below(far))
	case 0x15, 0x25, 0x35, 0x45, 0x1d, 0x2d, 0x3d, 0x4d:
		far = min(far, 256)
		in.Jt, in.Jf = uint8(r.below(far)), uint8(r.below(far))
	case 0x20:
		in.K = 4 * uint32(r.below(16))
	case 0x34:
		in.K = max(in.K, 1)
	case 0x64, 0x74:
		in.K %= 32
	case 0x60, 0x61, 0x02, 0x03:
		in.K = uint32([]int{0, 1, 2, 15, r.below(16)}[r.below(5)])
	}
	return in
}
