package flow_test

import "ravelin/api"

// random are numbers that follow no shape, the same ones at each run.
type random uint64

func (r *random) next() uint32 {
	*r = *r*6364136223846793005 + 1442695040888963407
	return uint32(*r>>32 ^ *r>>59)
}

// below is a number from 0 to n - 1.
func (r *random) below(n int) int { return int(r.next()>>1) % n }

// code is an operation, or now and then any number.
func (r *random) code() uint16 {
	switch r.below(4) {
	case 0:
		return uint16(r.next())
	case 1:
		return branches()[r.below(8)]
	}
	return []uint16{0x00, 0x20, 0x05, 0x05, 0x06, 0x16, 0x07, 0x3c}[r.below(8)]
}

// word is one of a few, so that jumps go now this way, now that.
func (r *random) word() uint32 { return uint32(r.below(4)) }

// plain is an instruction that leads to the next one; in fields that it does not ask for there may be anything.
func (r *random) plain() api.Insn {
	in := api.Insn{Code: []uint16{0x20, 0x00, 0x01, 0x60, 0x61, 0x02, 0x03, 0x04, 0x1c, 0x54, 0x3c, 0x84, 0x07, 0x87, 0x80}[r.below(15)], Jt: uint8(r.next()), Jf: uint8(r.next()), K: r.word()}
	if in.Code == 0x20 {
		in.K = 4 * uint32(r.below(16))
	}
	return in
}

// program is one that is accepted; its ways go at most so far.
func (r *random) program(n, far, jumps, ends int) []api.Insn {
	q := make([]api.Insn, n, n+r.below(3))
	for at := range q[:n-1] {
		switch x := r.below(12); {
		case x < jumps:
			q[at] = r.jump(min(far, n-1-at))
		case x < jumps+ends:
			q[at] = r.end()
		default:
			q[at] = r.plain()
		}
	}
	q[n-1] = r.end()
	return q
}

func (r *random) end() api.Insn {
	return api.Insn{Code: []uint16{0x06, 0x16}[r.below(2)], Jt: uint8(r.next()), Jf: uint8(r.next()), K: r.word()}
}

// jump is one that goes over less than so many.
func (r *random) jump(far int) api.Insn {
	if r.below(5) == 0 {
		return api.Insn{Code: 0x05, Jt: uint8(r.next()), Jf: uint8(r.next()), K: uint32(r.below(far))}
	}
	far = min(far, 256)
	in := api.Insn{Code: branches()[r.below(8)], Jt: uint8(r.below(far)), Jf: uint8(r.below(far)), K: r.word()}
	switch r.below(6) {
	case 0:
		in.Jt = 0
	case 1:
		in.Jf = 0
	case 2:
		in.Jt = in.Jf
	}
	return in
}

// data are 64 bytes, the words of which are such as are asked for.
func (r *random) data() []byte {
	b := make([]byte, 64)
	for i := 0; i < 64; i += 4 {
		b[i] = byte(r.word())
	}
	return b
}

// lettersAt are the instructions that may stand ahead of so many others, one for each way to go on.
func lettersAt(behind int) []api.Insn {
	l := []api.Insn{{Code: 0x06}, {Code: 0x00}}
	for a := range behind {
		l = append(l, api.Insn{Code: 0x05, K: uint32(a)})
		for b := range behind {
			l = append(l, api.Insn{Code: 0x1d, Jt: uint8(a), Jf: uint8(b)})
		}
	}
	return l
}

// allPrograms goes through the accepted programs of n instructions, by where these lead to.
func allPrograms(n int, look func(q []api.Insn)) {
	q := make([]api.Insn, n)
	q[n-1] = api.Insn{Code: 0x16}
	var lay func(at int)
	lay = func(at int) {
		if at == n-1 {
			look(q)
			return
		}
		for _, in := range lettersAt(n - 1 - at) {
			q[at] = in
			lay(at + 1)
		}
	}
	lay(0)
}
