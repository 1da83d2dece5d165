package opt_test

import (
	"encoding/binary"

	"ravelin/api"
)

// random are numbers that follow no shape, the same ones at each run.
type random uint64

func (r *random) next() uint32 {
	*r = *r*6364136223846793005 + 1442695040888963407
	return uint32(*r>>32 ^ *r>>59)
}

// below is a number from 0 to n - 1.
func (r *random) below(n int) int { return int(r.next()>>1) % n }

// word is mostly one of a few, so that it is often told which way a jump goes, and often not.
func (r *random) word() uint32 {
	if r.below(12) == 0 {
		return []uint32{31, 32, 33, 64, 0x7fffffff, 0x80000000, 0xfffffffe, 0xffffffff}[r.below(8)]
	}
	return uint32(r.below(4))
}

// branches are the Codes of the jumps of two ways.
func branches() []uint16 {
	return []uint16{0x15, 0x25, 0x35, 0x45, 0x1d, 0x2d, 0x3d, 0x4d}
}

// numbers are the Codes of the operations of numbers.
func numbers() []uint16 {
	return []uint16{
		0x04, 0x14, 0x24, 0x34, 0x44, 0x54, 0x64, 0x74, 0xa4,
		0x0c, 0x1c, 0x2c, 0x3c, 0x4c, 0x5c, 0x6c, 0x7c, 0xac, 0x84,
	}
}

// scratch is one of a few words, so that what is stored is often loaded.
func (r *random) scratch() uint32 { return []uint32{0, 1, 15}[r.below(3)] }

// number is an operation of numbers that may be.
func (r *random) number() api.Insn {
	in := api.Insn{Code: numbers()[r.below(19)], K: r.word()}
	switch in.Code {
	case 0x34:
		in.K = max(in.K, 1)
	case 0x64, 0x74:
		in.K %= 32
	}
	return in
}

// plain is an instruction that leads to the next one. Loads of the data are as rare as is said.
func (r *random) plain(rare int) api.Insn {
	if r.below(rare) == 0 {
		return api.Insn{Code: 0x20, K: 4 * uint32(r.below(2))}
	}
	switch r.below(5) {
	case 0:
		return api.Insn{Code: []uint16{0x00, 0x01}[r.below(2)], K: r.word()}
	case 1:
		return api.Insn{Code: []uint16{0x60, 0x61, 0x02, 0x03}[r.below(4)], K: r.scratch()}
	case 2:
		return api.Insn{Code: []uint16{0x80, 0x81, 0x07, 0x87, 0x07, 0x87}[r.below(6)], K: r.word()}
	}
	return r.number()
}

// odd puts anything into fields that an instruction does not ask for.
func (r *random) odd(in api.Insn) api.Insn {
	if !isBranch(in) {
		in.Jt, in.Jf = uint8(r.next()), uint8(r.next())
	}
	switch in.Code {
	case 0x80, 0x81, 0x07, 0x87, 0x84, 0x16:
		in.K = r.next()
	}
	if in.Code&0x0f == 0x0c || in.Code&0x0f == 0x0d {
		in.K = r.next()
	}
	return in
}

// shape is how random programs are: how far jumps go, how many of twelve are jumps, or returns, how rare loads are.
type shape struct{ far, jumps, ends, rare int }

func (r *random) shape(n int) shape {
	return shape{1 + r.below(n), r.below(10), r.below(2), 1 + r.below(40)}
}

// program is one that is accepted.
func (r *random) program(n int, s shape) []api.Insn {
	q := make([]api.Insn, n, n+r.below(3))
	odd := r.below(3) == 0
	for at := range q {
		switch x := r.below(12); {
		case at == n-1, x >= 12-s.ends:
			q[at] = api.Insn{Code: 0x16}
			if r.below(4) == 0 {
				q[at] = api.Insn{Code: 0x06, K: r.word()}
			}
		case x < s.jumps:
			q[at] = r.jump(min(s.far, n-1-at))
		default:
			q[at] = r.plain(s.rare)
		}
		if odd {
			q[at] = r.odd(q[at])
		}
	}
	return q
}

// jump is one that goes over less than so many.
func (r *random) jump(far int) api.Insn {
	if r.below(4) == 0 {
		return api.Insn{Code: 0x05, K: uint32(r.below(far))}
	}
	far = min(far, 256)
	in := api.Insn{Code: branches()[r.below(8)], Jt: uint8(r.below(far)), Jf: uint8(r.below(far)), K: r.word()}
	switch r.below(6) {
	case 0:
		in.Jt = 0
	case 1:
		in.Jf = 0
	case 2:
		in.Jt = in.Jf
	}
	return in
}

// dataOf are data whose first two words are these.
func dataOf(first, second uint32) []byte {
	b := make([]byte, 64)
	binary.LittleEndian.PutUint32(b, first)
	binary.LittleEndian.PutUint32(b[4:], second)
	return b
}

// data are some, with words such as are asked for.
func (r *random) data(n int) [][]byte {
	l := [][]byte{dataOf(0, 0)}
	for range n - 1 {
		l = append(l, dataOf(r.word(), r.word()))
	}
	return l
}

// lettersAt are the instructions that may stand ahead of so many others: some that do not jump, and all jumps of some sorts.
func lettersAt(plain []api.Insn, codes []uint16, behind int) []api.Insn {
	l := append([]api.Insn{}, plain...)
	for a := range behind {
		l = append(l, api.Insn{Code: 0x05, K: uint32(a)})
		for b := range behind {
			for _, code := range codes {
				l = append(l, api.Insn{Code: code, Jt: uint8(a), Jf: uint8(b), K: 1})
			}
		}
	}
	return l
}

// allPrograms goes through the programs of n such instructions, the last of them a Ret.
func allPrograms(n int, plain []api.Insn, codes []uint16, look func(q []api.Insn)) {
	q := make([]api.Insn, n)
	var lay func(at int)
	lay = func(at int) {
		if at == n-1 {
			q[at] = api.Insn{Code: 0x16}
			look(q)
			return
		}
		for _, in := range lettersAt(plain, codes, n-1-at) {
			q[at] = in
			lay(at + 1)
		}
	}
	lay(0)
}
