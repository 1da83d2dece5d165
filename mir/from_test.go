package mir_test

import (
	"math"
	"slices"
	"testing"

	"ravelin/api"
	"ravelin/check"
	"ravelin/mir"
)

func retA() api.Insn          { return api.Insn{Code: 0x16} }
func ret(k uint32) api.Insn   { return api.Insn{Code: 0x06, K: k} }
func word(k uint32) api.Insn  { return api.Insn{Code: 0x20, K: k} }
func op(code uint16) api.Insn { return api.Insn{Code: code} }

// by is an operation with a K.
func by(code uint16, k uint32) api.Insn { return api.Insn{Code: code, K: k} }

// test is a jump of two ways.
func test(code uint16, k uint32, jt, jf uint8) api.Insn {
	return api.Insn{Code: code, Jt: jt, Jf: jf, K: k}
}

// holdFromAnswers holds From, and what the Mir answers over some data.
func holdFromAnswers(t *testing.T, q []api.Insn, data []byte, want uint32) {
	t.Helper()
	p := holdFrom(t, q, data)
	if got := run(p, data); got.answer != want {
		t.Errorf("From of %s is %s: it answers %#x, not %#x", brief(q), brief(p), got.answer, want)
	}
}

func TestFromExamples(t *testing.T) {
	five := []api.Insn{word(0), test(0x15, 5, 0, 1), ret(1), ret(2)}
	holdFromAnswers(t, five, dataOf(5), 1)
	holdFromAnswers(t, five, dataOf(6), 2)
	holdFromAnswers(t, []api.Insn{word(4), by(0x54, 0xf0), retA()}, dataOf(0, 0xab), 0xa0)
	holdFromAnswers(t, []api.Insn{by(0x00, 7), op(0x3c), ret(9)}, dataOf(), 0)
	holdFromAnswers(t, []api.Insn{by(0x00, 7), by(0x01, 2), op(0x3c), retA()}, dataOf(), 3)
	holdFromAnswers(t, []api.Insn{by(0x00, 1), by(0x01, 33), op(0x6c), retA()}, dataOf(), 2)
	holdFromAnswers(t, []api.Insn{op(0x80), op(0x07), op(0x84), op(0x0c), retA()}, dataOf(), 0)
	holdFromAnswers(t, []api.Insn{op(0x81), op(0x87), retA()}, dataOf(), 64)
	holdFromAnswers(t, []api.Insn{retA()}, dataOf(1), 0)
	holdFromAnswers(t, []api.Insn{op(0x87), retA()}, dataOf(1), 0)
	holdFromAnswers(t, []api.Insn{ret(0xfedcba98)}, dataOf(1), 0xfedcba98)
}

// shaped is an operation with a K that may stand there, and so few ways on that all are within the next two.
func shaped(code uint16, k uint32) api.Insn {
	in := api.Insn{Code: code, Jt: 1, Jf: 0, K: k}
	switch code {
	case 0x05:
		in.K %= 2
	case 0x20:
		in.K = k % 16 * 4
	case 0x34:
		in.K = max(k, 1)
	case 0x64, 0x74:
		in.K %= 32
	case 0x60, 0x61, 0x02, 0x03:
		in.K = []uint32{3, 15}[k%2]
	}
	return in
}

// Each operation with words of all shapes, in A, in X and as K; what A and what X and what a scratch word is behind it.
func TestFromOfEachOperation(t *testing.T) {
	tails := [][]api.Insn{{retA()}, {op(0x87), retA()}, {by(0x60, 3), retA()}, {by(0x61, 15), op(0x87), retA()}}
	for _, code := range theOperations() {
		for i, k := range edges() {
			if i > 3 && !asksK(code) {
				continue
			}
			var data [][]byte
			for _, a := range append(edges(), k-1, k+1) {
				for _, x := range []uint32{0, 1, 33, 0x80000000, a, k} {
					data = append(data, dataOf(a, x, 0x2222, 0x3333))
				}
			}
			for _, tail := range tails {
				q := []api.Insn{word(8), by(0x02, 3), word(12), by(0x02, 15), word(4), op(0x07), word(0), shaped(code, k), by(0x04, 0x1000)}
				holdFrom(t, append(q, tail...), data...)
			}
		}
	}
}

// Each scratch word for itself, set by A and by X, asked for by A and by X; all are 0 at first.
func TestFromOfScratchWords(t *testing.T) {
	for n := range uint32(16) {
		for m := range uint32(16) {
			for _, set := range []uint16{0x02, 0x03} {
				for _, get := range [][]api.Insn{{by(0x60, m)}, {by(0x61, m), op(0x87)}} {
					q := append([]api.Insn{by(0x00, 77), by(0x01, 88), by(set, n)}, get...)
					want := map[uint16]uint32{0x02: 77, 0x03: 88}[set]
					if n != m {
						want = 0
					}
					holdFromAnswers(t, append(q, retA()), dataOf(), want)
				}
			}
		}
	}
	// All sixteen of them, A and X at once, each with a weight of its own.
	var q []api.Insn
	for n := range uint32(16) {
		q = append(q, by(0x00, 1<<n), by(0x02, n))
	}
	q = append(q, by(0x00, 1<<16), by(0x01, 1<<17), op(0x0c))
	for n := range uint32(16) {
		q = append(q, by(0x61, n), op(0x0c))
	}
	holdFromAnswers(t, append(q, retA()), dataOf(), 1<<18-1)
}

// A division by an X of 0 ends with 0, whatever A is, and whatever would come; one by a constant never does.
func TestFromOfDivisions(t *testing.T) {
	for _, a := range edges() {
		for _, x := range edges() {
			for _, q := range [][]api.Insn{
				{word(4), op(0x07), word(0), op(0x3c), retA()},
				{word(4), op(0x07), word(0), op(0x3c), ret(5)},
				{word(4), op(0x07), word(0), op(0x3c), op(0x3c), by(0x04, 9), retA()},
				{word(4), op(0x07), word(0), test(0x45, 1, 1, 0), op(0x3c), op(0x3c), by(0x04, 9), retA()},
				{word(4), op(0x07), word(0), op(0x3c), test(0x15, 0, 0, 1), ret(1), ret(2)},
				{word(0), by(0x34, max(x, 1)), retA()},
			} {
				holdFrom(t, q, dataOf(a, x))
			}
		}
	}
	holdFromAnswers(t, []api.Insn{word(0), op(0x3c), by(0x04, 9), retA()}, dataOf(77), 0)
}

// Jumps lead to where they led to, however much stands between.
func TestFromOfJumps(t *testing.T) {
	wide := []api.Insn{op(0x3c), by(0x04, 3), by(0x00, 2), op(0x84), by(0x02, 1), test(0x1d, 0, 0, 0), op(0x05)}
	for _, far := range []int{0, 1, 2, 3, 7, 100, 254, 255} {
		for _, code := range []uint16{0x15, 0x25, 0x35, 0x45, 0x1d, 0x2d, 0x3d, 0x4d} {
			q := []api.Insn{by(0x01, 5), word(0), test(code, 5, uint8(far), 0)}
			for i := range 256 {
				q = append(q, wide[i%len(wide)])
			}
			// Where it comes to, it says so.
			q[3+far] = ret(1000 + uint32(far))
			if far > 0 {
				q[3] = ret(2000)
			}
			q = append(q, ret(3000))
			mirrored := slices.Clone(q)
			mirrored[2].Jt, mirrored[2].Jf = mirrored[2].Jf, mirrored[2].Jt
			for _, a := range []uint32{0, 2, 4, 5, 6, 0xffffffff} {
				holdFrom(t, q, dataOf(a))
				holdFrom(t, mirrored, dataOf(a))
			}
		}
	}
	for _, far := range []int{0, 1, 2, 255, 256, 1000, 4093} {
		q := append([]api.Insn{by(0x05, uint32(far))}, slices.Repeat([]api.Insn{by(0x04, 1)}, 4094)...)
		q = append(q, retA())
		holdFromAnswers(t, q, dataOf(), uint32(4094-far))
	}
	// To itself there is no way, to the next one there is.
	holdFromAnswers(t, []api.Insn{by(0x05, 0), test(0x15, 0, 0, 0), retA()}, dataOf(), 0)
}

// All programs of up to four instructions that are put together of these.
func TestFromOfAllSmallPrograms(t *testing.T) {
	letters := []api.Insn{
		word(0), by(0x00, 9), by(0x01, 3), op(0x81), by(0x02, 0), by(0x61, 0), by(0x04, 5), op(0x3c), op(0x1c), op(0x84),
		op(0x07), op(0x87), by(0x05, 0), by(0x05, 1), test(0x15, 9, 1, 0), test(0x3d, 0, 0, 1), ret(6), retA(),
	}
	data := [][]byte{dataOf(0), dataOf(9), dataOf(0x80000001)}
	many := 0
	var lay func(q []api.Insn)
	lay = func(q []api.Insn) {
		if err, _ := check.Check(q); err == 0 {
			many++
			holdFrom(t, q, data...)
		}
		if len(q) == 4 {
			return
		}
		for _, in := range letters {
			lay(append(slices.Clone(q), in))
		}
	}
	lay(nil)
	if many < 8000 {
		t.Errorf("there are only %d", many)
	}
}

// Programs that follow no shape.
func TestFromOfAllShapes(t *testing.T) {
	r := random(44)
	answers := map[uint32]int{}
	for range 20000 {
		q := r.program(1+r.below(40), shape{1 + r.below(12), r.below(6), r.below(2)})
		p := holdFrom(t, q, r.data(), r.data(), r.data())
		holdNext(t, p)
		answers[run(p, r.data()).answer]++
	}
	if len(answers) < 1000 {
		t.Errorf("there are %d answers", len(answers))
	}
}

// As many instructions as there may be.
func TestFromOfLongPrograms(t *testing.T) {
	for _, in := range []api.Insn{by(0x04, 7), op(0x3c), by(0x05, 0), test(0x45, 7, 0, 0), ret(9), by(0x03, 4)} {
		for _, n := range []int{1, 4095} {
			q := append(slices.Repeat([]api.Insn{in}, n), retA())
			holdFrom(t, q, dataOf())
			q[0] = by(0x01, 1)
			holdFrom(t, q, dataOf())
		}
	}
	r := random(6)
	for i := range 40 {
		q := r.program([]int{1000, 4095, 4096}[i%3], shape{1 + r.below(400), 1 + r.below(5), 0})
		holdFrom(t, q, r.data(), r.data(), r.data())
	}
}

// A constant stands as it is, or nowhere; a number that is none of the program's constants doesn't stand in its place.
func TestFromKeepsConstants(t *testing.T) {
	const k = 0x12345678
	for _, code := range theOperations() {
		in := api.Insn{Code: code, K: k}
		switch code {
		case 0x05:
			in.K = 1
		case 0x20, 0x60, 0x61, 0x02, 0x03:
			in.K = 12
		case 0x64, 0x74:
			in.K = 29
		}
		q := []api.Insn{in, op(0x0c), retA()}
		p := holdFrom(t, q, dataOf(1, 2, 3, 4), dataOf())
		for at, x := range p.L {
			if !asksK(code) && (x.K == k || x.Op == 1 && x.K != 0 && x.K != 64) {
				t.Errorf("From of %v is %+v: at %d there is a number", q, p, at)
			}
		}
	}
}

// Of programs that are not accepted nothing is made.
func TestFromRefuses(t *testing.T) {
	l := [][]api.Insn{
		nil, {}, slices.Repeat([]api.Insn{ret(1)}, 4097), slices.Repeat([]api.Insn{ret(1)}, 70000),
		{op(0x00)}, {by(0x05, 0)}, {ret(1), op(0x00)}, {by(0x05, 1), ret(1)}, {by(0x05, math.MaxUint32), ret(1)},
		{test(0x15, 0, 1, 0), ret(1)}, {test(0x4d, 0, 0, 1), ret(1)}, {ret(1), test(0x15, 0, 0, 255), ret(1)},
		{ret(1), by(0x94, 3), ret(1)}, {op(0xffff), ret(1)}, {op(0x8c), ret(1)}, {op(0x28), ret(1)}, {op(0x26)},
		{word(62), ret(1)}, {word(64), ret(1)}, {op(0x34), ret(1)}, {ret(1), op(0x34), ret(1)}, {by(0x64, 32), ret(1)}, {by(0x74, 99), ret(1)},
		{by(0x02, 16), ret(1)}, {by(0x61, math.MaxUint32), ret(1)},
	}
	r := random(7)
	for range 3000 {
		n := 1 + r.below(20)
		q := r.program(n, shape{5, 2, 1})
		at := r.below(n)
		switch r.below(4) {
		case 0:
			q[at] = by(0x05, uint32(n-1-at))
		case 1:
			q[at].Code |= 0x100
		case 2:
			q[n-1] = by(0x00, 3)
		case 3:
			q[at] = test(0x15, 0, uint8(n-1-at), 0)
		}
		l = append(l, q)
	}
	for _, q := range l {
		if err, _ := check.Check(q); err == 0 {
			t.Fatalf("%s is accepted", brief(q))
		}
		if p, err := mir.From(q); err != api.ErrArg || p.Regs != 0 || len(p.L) != 0 {
			t.Errorf("From of %s is %s, %d", brief(q), brief(p), err)
		}
	}
}

// A program is not changed, nor its spare room, nor kept; what comes out is new, and the same again.
func TestFromIsNew(t *testing.T) {
	r := random(9)
	for range 2000 {
		q := r.program(1+r.below(20), shape{6, 3, 1})
		keep := slices.Clone(q[:cap(q)])
		first := holdFrom(t, q)
		again := slices.Clone(first.L)
		clear(first.L[:cap(first.L)])
		second := holdFrom(t, q)
		if second.Regs != first.Regs || !slices.Equal(second.L, again) {
			t.Fatalf("From of %s is %s, then %s", brief(q), brief(again), brief(second))
		}
		if !slices.Equal(keep, q[:cap(q)]) {
			t.Fatalf("%s is %s now", brief(keep), brief(q[:cap(q)]))
		}
		clear(q[:cap(q)])
		if !slices.Equal(second.L, again) {
			t.Fatalf("a Mir keeps its program")
		}
	}
}
