package cbpf_test

import (
	"encoding/binary"
	"math"
	"slices"
	"testing"

	"ravelin/api"
	"ravelin/cbpf"
)

// ended is how a machine stands, as State and Answer tell.
type ended struct {
	a, x    uint32
	m       [16]uint32
	place   int
	through bool
	answer  uint32
	steps   int
	err     api.Errno
	at      int
}

// stateOf asks a machine all that there is to ask.
func stateOf(t *testing.T, m *cbpf.Machine, through bool) ended {
	t.Helper()
	s := ended{through: through}
	var l []uint32
	s.a, s.x, l, s.place = m.State()
	if len(l) != 16 {
		t.Fatalf("there are %d scratch words", len(l))
	}
	copy(s.m[:], l)
	s.answer, s.steps, s.err, s.at = m.Answer()
	return s
}

// byHand is what a step is to do, written down from the chapter's table by its numbers.
func byHand(s *ended, q []api.Insn, data []byte) {
	if s.through {
		return
	}
	fault := func(e api.Errno) { s.through, s.err, s.at = true, e, s.place }
	if len(data) != 64 {
		fault(21)
		return
	}
	if s.place >= len(q) {
		fault(33)
		return
	}
	in := q[s.place]
	if !isOperation(in.Code) {
		fault(32)
		return
	}
	switch k := in.K; in.Code {
	case 0x20:
		if k > 60 || k&3 != 0 {
			fault(34)
			return
		}
	case 0x60, 0x61, 0x02, 0x03:
		if k > 15 {
			fault(35)
			return
		}
	case 0x34:
		if k == 0 {
			fault(36)
			return
		}
	}
	s.steps++
	doByHand(s, in, data)
}

func doByHand(s *ended, in api.Insn, data []byte) {
	k, next := in.K, s.place+1
	switch in.Code {
	case 0x20:
		s.a = binary.LittleEndian.Uint32(data[k:])
	case 0x80:
		s.a = 64
	case 0x81:
		s.x = 64
	case 0x00:
		s.a = k
	case 0x01:
		s.x = k
	case 0x60:
		s.a = s.m[k]
	case 0x61:
		s.x = s.m[k]
	case 0x02:
		s.m[k] = s.a
	case 0x03:
		s.m[k] = s.x
	case 0x84:
		s.a = 0 - s.a
	case 0x05:
		next += int(k)
	case 0x15, 0x25, 0x35, 0x45, 0x1d, 0x2d, 0x3d, 0x4d:
		v := k
		if in.Code&8 != 0 {
			v = s.x
		}
		is := false
		switch in.Code >> 4 {
		case 1:
			is = s.a == v
		case 2:
			is = s.a > v
		case 3:
			is = s.a >= v
		case 4:
			for i := range 32 {
				is = is || s.a>>i%2 == 1 && v>>i%2 == 1
			}
		}
		if is {
			next += int(in.Jt)
		} else {
			next += int(in.Jf)
		}
	case 0x06:
		s.through, s.answer, next = true, k, s.place
	case 0x16:
		s.through, s.answer, next = true, s.a, s.place
	case 0x07:
		s.x = s.a
	case 0x87:
		s.a = s.x
	case 0x3c:
		if s.x == 0 {
			s.through, s.answer, next = true, 0, s.place
		} else {
			s.a = s.a / s.x
		}
	default:
		v := uint64(k)
		if in.Code&8 != 0 {
			v = uint64(s.x)
		}
		s.a = uint32(numberByHand(in.Code>>4, uint64(s.a), v))
	}
	s.place = next
}

// numberByHand reckons with 64 bits; the lowest 32 of the answer count.
func numberByHand(sort uint16, a, v uint64) uint64 {
	switch sort {
	case 0:
		return a + v
	case 1:
		return a + (1<<32 - v)
	case 2:
		return a * v
	case 3:
		return a / v
	case 4:
		return a | v
	case 5:
		return a & v
	case 6:
		return a << (v % 32)
	case 7:
		return a >> (v % 32)
	case 0xa:
		return a&^v | v&^a
	}
	panic("no such sort")
}

// theOperations are the Codes of the chapter's table, by their numbers.
func theOperations() []uint16 {
	return []uint16{
		0x20, 0x80, 0x81, 0x00, 0x01, 0x60, 0x61, 0x02, 0x03,
		0x04, 0x14, 0x24, 0x34, 0x44, 0x54, 0x64, 0x74, 0xa4,
		0x0c, 0x1c, 0x2c, 0x3c, 0x4c, 0x5c, 0x6c, 0x7c, 0xac,
		0x84, 0x05, 0x15, 0x25, 0x35, 0x45, 0x1d, 0x2d, 0x3d, 0x4d,
		0x06, 0x16, 0x07, 0x87,
	}
}

func isOperation(code uint16) bool { return slices.Contains(theOperations(), code) }

// someBytes are data, no two bytes of which are alike.
func someBytes() []byte {
	b := make([]byte, 64)
	for i := range b {
		b[i] = byte(0xf1 - 3*i)
	}
	return b
}

// edges are words of all shapes.
func edges() []uint32 {
	return []uint32{0, 1, 2, 3, 5, 7, 15, 16, 17, 31, 32, 33, 60, 61, 63, 64, 65, 255, 256, 0x7fff, 0x8000, 0x10000, 0x55555555, 0xaaaaaaaa, 0x7ffffffe, 0x7fffffff, 0x80000000, 0x80000001, 0xfffffff0, 0xfffffffe, 0xffffffff}
}

// stepThrough holds each step of a machine, and a Run, against the table.
func stepThrough(t *testing.T, q []api.Insn, data []byte) ended {
	t.Helper()
	m := cbpf.New(q, data)
	want := ended{}
	if got := stateOf(t, m, false); got != want {
		t.Fatalf("of %v: at first it is %v", q, got)
	}
	for n := 0; !want.through; n++ {
		from := want
		byHand(&want, q, data)
		if got := stateOf(t, m, m.Step()); got != want {
			t.Fatalf("of %v: from %v on it comes to %v, not %v", q, from, got, want)
		}
		if n > len(q) || !want.through && want.place <= from.place {
			t.Fatalf("of %v: it comes from %v to %v", q, from, want)
		}
	}
	if got := stateOf(t, m, m.Step()); got != want {
		t.Fatalf("of %v: through with %v, it goes on to %v", q, want, got)
	}
	answer, steps, err, at := cbpf.Run(q, data)
	if answer != want.answer || steps != want.steps || err != want.err || at != want.at {
		t.Fatalf("Run of %v is %d, %d steps, %d at %d, not %v", q, answer, steps, err, at, want)
	}
	return want
}

func TestRunExamples(t *testing.T) {
	data := someBytes()
	copy(data, []byte{5, 0, 0, 0})
	for _, c := range []struct {
		q     []api.Insn
		want  uint32
		steps int
		err   api.Errno
		at    int
	}{
		{[]api.Insn{{Code: 0x20}, {Code: 0x15, Jf: 1, K: 5}, {Code: 0x06, K: 1}, {Code: 0x06, K: 2}}, 1, 3, api.OK, 0},
		{[]api.Insn{{Code: 0x20}, {Code: 0x15, Jf: 1, K: 6}, {Code: 0x06, K: 1}, {Code: 0x06, K: 2}}, 2, 3, api.OK, 0},
		{[]api.Insn{{Code: 0x00, K: 7}, {Code: 0x34}}, 0, 1, api.ErrCbpfDiv, 1},
		{[]api.Insn{{Code: 0x00, K: 7}, {Code: 0x3c}, {Code: 0x06, K: 9}}, 0, 2, api.OK, 0},
		{nil, 0, 0, api.ErrCbpfJump, 0},
		{[]api.Insn{}, 0, 0, api.ErrCbpfJump, 0},
		{[]api.Insn{{Code: 0x00, K: 1}, {Code: 0x01, K: 33}, {Code: 0x6c}, {Code: 0x16}}, 2, 4, api.OK, 0},
		{[]api.Insn{{Code: 0x00, K: 1}, {Code: 0x64, K: 33}, {Code: 0x16}}, 2, 3, api.OK, 0},
		{[]api.Insn{{Code: 0x00, K: 8}, {Code: 0x74, K: 0xffffffe2}, {Code: 0x16}}, 2, 3, api.OK, 0},
		{[]api.Insn{{Code: 0x00, K: 7}}, 0, 1, api.ErrCbpfJump, 1},
		{[]api.Insn{{Code: 0x05, K: 1}, {Code: 0x06, K: 3}, {Code: 0x06, K: 4}}, 4, 2, api.OK, 0},
		{[]api.Insn{{Code: 0x05, K: 2}, {Code: 0x06, K: 3}}, 0, 1, api.ErrCbpfJump, 3},
		{[]api.Insn{{Code: 0x05, K: math.MaxUint32}, {Code: 0x06, K: 3}}, 0, 1, api.ErrCbpfJump, 1 << 32},
		{[]api.Insn{{Code: 0x81}, {Code: 0x05, K: math.MaxUint32}, {Code: 0x06, K: 3}}, 0, 2, api.ErrCbpfJump, 1<<32 + 1},
		{[]api.Insn{{Code: 0x15, Jt: 255, Jf: 0}, {Code: 0x06}}, 0, 1, api.ErrCbpfJump, 256},
		{[]api.Insn{{Code: 0x94, K: 3}, {Code: 0x06, K: 3}}, 0, 0, api.ErrCbpfCode, 0},
		{[]api.Insn{{Code: 0x80}, {Code: 0x87}, {Code: 0x81}, {Code: 0x0c}, {Code: 0x16}}, 64, 5, api.OK, 0},
		{[]api.Insn{{Code: 0x80}, {Code: 0x84}, {Code: 0x16}}, math.MaxUint32 - 63, 3, api.OK, 0},
		{[]api.Insn{{Code: 0x20, K: 62}, {Code: 0x06}}, 0, 0, api.ErrCbpfLoad, 0},
		{[]api.Insn{{Code: 0x20, K: 64}, {Code: 0x06}}, 0, 0, api.ErrCbpfLoad, 0},
		{[]api.Insn{{Code: 0x00}, {Code: 0x02, K: 16}, {Code: 0x06}}, 0, 1, api.ErrCbpfMem, 1},
		{[]api.Insn{{Code: 0x06, Jt: 9, Jf: 9, K: math.MaxUint32}}, math.MaxUint32, 1, api.OK, 0},
	} {
		answer, steps, err, at := cbpf.Run(c.q, data)
		if answer != c.want || steps != c.steps || err != c.err || at != c.at {
			t.Errorf("Run of %v is %d, %d steps, %d at %d", c.q, answer, steps, err, at)
		}
	}
}

// Each Code that there could be, alone and ahead of a return.
func TestAllCodes(t *testing.T) {
	data := someBytes()
	for code := range 1 << 16 {
		in := api.Insn{Code: uint16(code), Jt: 1, K: 4}
		answer, steps, err, at := cbpf.Run([]api.Insn{in}, data)
		if !isOperation(in.Code) {
			if answer != 0 || steps != 0 || err != api.ErrCbpfCode || at != 0 {
				t.Fatalf("Run of the Code %#x is %d, %d steps, %d at %d", code, answer, steps, err, at)
			}
			continue
		}
		if steps != 1 || err == api.ErrCbpfCode {
			t.Fatalf("Run of the Code %#x is %d, %d steps, %d at %d", code, answer, steps, err, at)
		}
		stepThrough(t, []api.Insn{in}, data)
		stepThrough(t, []api.Insn{in, {Code: 0x16}, {Code: 0x06, K: 9}, {Code: 0x06, K: 10}, {Code: 0x06, K: 11}, {Code: 0x06, K: 12}}, data)
	}
}

// Each operation with words of all shapes as A, X and K: what comes of A, X and the scratch words, and by which way it goes.
func TestOperationsOfWords(t *testing.T) {
	data := someBytes()
	for _, code := range theOperations() {
		for _, a := range edges() {
			for _, v := range edges() {
				q := []api.Insn{{Code: 0x00, K: a}, {Code: 0x01, K: 11}, {Code: code, Jt: 1, Jf: 3, K: v}, {Code: 0x00}, {Code: 0x01}, {Code: 0x06, K: 1}, {Code: 0x06, K: 2}}
				if code&0x0f >= 0x0c {
					q[1].K, q[2].K = v, 11
				}
				stepThrough(t, q, data)
			}
		}
	}
}

func TestLoadsOfTheData(t *testing.T) {
	data := someBytes()
	for k := range uint32(300) {
		answer, steps, err, at := cbpf.Run([]api.Insn{{Code: 0x20, K: k}, {Code: 0x16}}, data)
		if k > 60 || k%4 != 0 {
			if answer != 0 || steps != 0 || err != api.ErrCbpfLoad || at != 0 {
				t.Fatalf("a load at %d: %d, %d steps, %d at %d", k, answer, steps, err, at)
			}
			continue
		}
		if answer != binary.LittleEndian.Uint32(data[k:]) || steps != 2 || err != api.OK {
			t.Fatalf("a load at %d: %#x, %d steps, %d", k, answer, steps, err)
		}
	}
	for _, k := range []uint32{1 << 31, 1<<31 + 4, math.MaxUint32, math.MaxUint32 - 3, 0x10000, 0x10004, 1 << 30} {
		if answer, steps, err, at := cbpf.Run([]api.Insn{{Code: 0x80}, {Code: 0x20, K: k}, {Code: 0x16}}, data); answer != 0 || steps != 1 || err != api.ErrCbpfLoad || at != 1 {
			t.Errorf("a load at %d: %d, %d steps, %d at %d", k, answer, steps, err, at)
		}
	}
}

// Each scratch word keeps what is stored into it, from A or from X, and no other one.
func TestScratchWords(t *testing.T) {
	data := someBytes()
	for _, store := range []uint16{0x02, 0x03} {
		for _, load := range []uint16{0x60, 0x61} {
			var q []api.Insn
			for k := range uint32(16) {
				q = append(q, api.Insn{Code: 0x00, K: 100 + k}, api.Insn{Code: 0x01, K: 200 + k}, api.Insn{Code: store, K: k})
			}
			for k := range uint32(16) {
				q = append(q, api.Insn{Code: load, K: 15 - k})
			}
			if end := stepThrough(t, q, data); end.m[0]%100 != 0 || end.m[15]%100 != 15 || end.err != api.ErrCbpfJump {
				t.Errorf("stores by %#x, loads by %#x: %v", store, load, end)
			}
		}
	}
	for _, code := range []uint16{0x60, 0x61, 0x02, 0x03} {
		for _, k := range []uint32{16, 17, 31, 32, 256, 1 << 16, 1 << 31, math.MaxUint32} {
			q := []api.Insn{{Code: 0x00, K: 4}, {Code: code, K: k}, {Code: 0x06, K: 1}}
			if end := stepThrough(t, q, data); end.err != api.ErrCbpfMem || end.at != 1 || end.steps != 1 {
				t.Errorf("%#x of %d: %v", code, k, end)
			}
		}
	}
}

// Data of another length are told ahead of all else, and no step is done.
func TestDataOfOtherLengths(t *testing.T) {
	long := append(someBytes(), someBytes()...)
	for n := range len(long) + 1 {
		for _, q := range [][]api.Insn{nil, {{Code: 0x06, K: 5}}, {{Code: 0xffff}}, {{Code: 0x20, K: 62}}, {{Code: 0x34}}, {{Code: 0x02, K: 16}}} {
			answer, steps, err, at := cbpf.Run(q, long[:n])
			if n != 64 && (answer != 0 || steps != 0 || err != api.ErrSecdataLen || at != 0) {
				t.Fatalf("Run of %v over %d bytes is %d, %d steps, %d at %d", q, n, answer, steps, err, at)
			}
			stepThrough(t, q, long[:n])
		}
	}
	if answer, steps, err, at := cbpf.Run([]api.Insn{{Code: 0x06, K: 5}}, nil); answer != 0 || steps != 0 || err != api.ErrSecdataLen || at != 0 {
		t.Errorf("Run without data is %d, %d steps, %d at %d", answer, steps, err, at)
	}
}

// program is one that follows no shape: most of its instructions can be done.
func (r *random) program() []api.Insn {
	q := make([]api.Insn, r.below(40))
	codes, words := theOperations(), edges()
	for i := range q {
		in := &q[i]
		in.Code = codes[r.below(len(codes))]
		in.Jt, in.Jf = uint8(r.below(4)), uint8(r.below(4))
		in.K = words[r.below(len(words))]
		if r.below(40) == 0 {
			in.Code = uint16(r.next())
		}
		if in.Code&7 == 6 && r.below(3) > 0 {
			in.Code = 0x2c
		}
		if in.Code == 0x05 {
			in.K = uint32(r.below(5))
		}
		if in.Code == 0x20 && r.below(20) > 0 {
			in.K = uint32(4 * r.below(16))
		}
		if in.Code&0x1e == 2 || in.Code&0x7e == 0x60 {
			in.K = uint32(r.below(17))
		}
	}
	return q
}

// P3.2 (stepThrough sees that places rise, and that there are no more steps than instructions), and all of the table, over programs that follow no shape.
func TestProgramsOfAllShapes(t *testing.T) {
	r := random(1)
	seen := map[api.Errno]int{}
	for range 20000 {
		data := make([]byte, 64)
		for i := range data {
			data[i] = byte(r.next())
		}
		q := r.program()
		end := stepThrough(t, q, data)
		if end.steps > len(q) {
			t.Fatalf("of %v: %d steps", q, end.steps)
		}
		seen[end.err]++
	}
	for _, e := range []api.Errno{api.OK, api.ErrCbpfCode, api.ErrCbpfJump, api.ErrCbpfLoad, api.ErrCbpfMem, api.ErrCbpfDiv} {
		if seen[e] < 20 {
			t.Errorf("only %d programs end with %d", seen[e], e)
		}
	}
}

// P3.2 of programs that do each of their instructions, and of one that leaps over most.
func TestStepsOfLongPrograms(t *testing.T) {
	data := someBytes()
	for _, n := range []int{1, 2, 255, 4096, 4097, 30000} {
		q := make([]api.Insn, n)
		for i := range q {
			q[i] = api.Insn{Code: 0x04, K: uint32(i)}
		}
		q[n-1] = api.Insn{Code: 0x16}
		if answer, steps, err, at := cbpf.Run(q, data); int(answer) != (n-2)*(n-1)/2%(1<<32) || steps != n || err != api.OK || at != 0 {
			t.Errorf("Run of %d instructions is %d, %d steps, %d at %d", n, answer, steps, err, at)
		}
		q[0] = api.Insn{Code: 0x05, K: uint32(n - 2)}
		if n > 1 {
			if answer, steps, err, at := cbpf.Run(q, data); answer != 0 || steps != 2 || err != api.OK || at != 0 {
				t.Errorf("Run of a leap over %d instructions is %d, %d steps, %d at %d", n, answer, steps, err, at)
			}
		}
	}
}

// Where an instruction stands when it is through, and that nothing goes on behind it.
func TestThroughIsThrough(t *testing.T) {
	data := someBytes()
	for _, q := range [][]api.Insn{
		nil,
		{{Code: 0x00, K: 3}, {Code: 0x07}, {Code: 0x02, K: 4}, {Code: 0x16}, {Code: 0x06, K: 1}},
		{{Code: 0x00, K: 3}, {Code: 0x3c}, {Code: 0x00, K: 5}, {Code: 0x06, K: 1}},
		{{Code: 0x00, K: 3}, {Code: 0x34}, {Code: 0x00, K: 5}, {Code: 0x06, K: 1}},
		{{Code: 0x00, K: 3}, {Code: 0x05, K: 7}, {Code: 0x00, K: 5}, {Code: 0x06, K: 1}},
		{{Code: 0x00, K: 3}, {Code: 0x08}, {Code: 0x00, K: 5}, {Code: 0x06, K: 1}},
	} {
		m := cbpf.New(q, data)
		for !m.Step() {
		}
		end := stateOf(t, m, true)
		for range 5 {
			if !m.Step() || stateOf(t, m, true) != end {
				t.Errorf("of %v: behind its end it goes on from %v to %v", q, end, stateOf(t, m, false))
			}
		}
	}
}

// The program and the data are copied; what a machine tells is new memory; no machine knows of another one.
func TestMachineSharesNothing(t *testing.T) {
	data := append(someBytes(), 1, 2, 3)
	q := []api.Insn{{Code: 0x20, K: 8}, {Code: 0x02, K: 3}, {Code: 0x20, K: 12}, {Code: 0x61, K: 3}, {Code: 0x0c}, {Code: 0x16}, {Code: 0x06, K: 77}}
	sum := binary.LittleEndian.Uint32(data[8:]) + binary.LittleEndian.Uint32(data[12:])
	oldData, oldQ := slices.Clone(data), slices.Clone(q)
	one, two := cbpf.New(q[:6], data[:64]), cbpf.New(q[:6], data[:64])
	one.Step()
	one.Step()
	if got := stateOf(t, two, false); got != (ended{}) {
		t.Errorf("a machine that did nothing is %v", got)
	}
	if !slices.Equal(data, oldData) || !slices.Equal(q, oldQ) {
		t.Errorf("New or Step changes its arguments, or their spare room")
	}
	clear(data)
	clear(q)
	_, _, scratch, _ := one.State()
	clear(scratch[:cap(scratch)])
	for !one.Step() {
	}
	for !two.Step() {
	}
	end := stateOf(t, one, true)
	if end != stateOf(t, two, true) || end.answer != sum || end.steps != 6 || end.err != api.OK || end.place != 5 {
		t.Errorf("machines whose program and data were changed come to %v and %v", end, stateOf(t, two, true))
	}
	if end.m[3] != binary.LittleEndian.Uint32(oldData[8:]) {
		t.Errorf("a machine whose told scratch words were changed has %v", end.m)
	}
}

// A run changes nothing, and is the same each time, whatever was run ahead of it.
func TestRunKeepsNothing(t *testing.T) {
	data, q := append(someBytes(), 9), []api.Insn{{Code: 0x60, K: 2}, {Code: 0x0c}, {Code: 0x04, K: 5}, {Code: 0x02, K: 2}, {Code: 0x07}, {Code: 0x16}, {Code: 0x06, K: 4}}
	oldData, oldQ := slices.Clone(data), slices.Clone(q)
	for range 3 {
		if answer, steps, err, at := cbpf.Run(q[:6], data[:64]); answer != 5 || steps != 6 || err != api.OK || at != 0 {
			t.Errorf("Run is %d, %d steps, %d at %d", answer, steps, err, at)
		}
		cbpf.Run([]api.Insn{{Code: 0xffff}}, data)
	}
	if !slices.Equal(data, oldData) || !slices.Equal(q, oldQ) {
		t.Errorf("Run changes its arguments, or their spare room")
	}
}

func BenchmarkRun(b *testing.B) {
	data, q := someBytes(), []api.Insn{{Code: 0x20}, {Code: 0x15, Jf: 1, K: 5}, {Code: 0x06, K: 1}, {Code: 0x06, K: 2}}
	for b.Loop() {
		cbpf.Run(q, data)
	}
}
