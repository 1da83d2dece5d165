package opt_test

import (
	"math"
	"slices"
	"testing"

	"ravelin/api"
	"ravelin/cbpf"
	"ravelin/opt"
)

// The instructions of the tables below.
var (
	retA = api.Insn{Code: 0x16}
	tax  = api.Insn{Code: 0x07}
	txa  = api.Insn{Code: 0x87}
)

func ret(k uint32) api.Insn  { return api.Insn{Code: 0x06, K: k} }
func lda(k uint32) api.Insn  { return api.Insn{Code: 0x00, K: k} }
func ldx(k uint32) api.Insn  { return api.Insn{Code: 0x01, K: k} }
func load(k uint32) api.Insn { return api.Insn{Code: 0x20, K: k} }
func st(k uint32) api.Insn   { return api.Insn{Code: 0x02, K: k} }
func stx(k uint32) api.Insn  { return api.Insn{Code: 0x03, K: k} }
func mem(k uint32) api.Insn  { return api.Insn{Code: 0x60, K: k} }
func memx(k uint32) api.Insn { return api.Insn{Code: 0x61, K: k} }
func add(k uint32) api.Insn  { return api.Insn{Code: 0x04, K: k} }
func ja(k uint32) api.Insn   { return api.Insn{Code: 0x05, K: k} }

// op is an operation with X.
func op(code uint16) api.Insn { return api.Insn{Code: code} }

// jeq asks for the word 1.
func jeq(jt, jf uint8) api.Insn { return api.Insn{Code: 0x15, Jt: jt, Jf: jf, K: 1} }

func TestExamples(t *testing.T) {
	if got, err := opt.Prune([]api.Insn{ret(1), ret(2)}); err != 0 || !slices.Equal(got, []api.Insn{ret(1)}) {
		t.Errorf("Prune: %v, %d", got, err)
	}
	if got, err := opt.Thread([]api.Insn{ja(0), ja(0), ret(0)}); err != 0 || !slices.Equal(got, []api.Insn{ja(1), ja(0), ret(0)}) {
		t.Errorf("Thread: %v, %d", got, err)
	}
	got, err := opt.Optimize([]api.Insn{lda(1), add(2), retA})
	answer, _, e, _ := cbpf.Run(got, make([]byte, 64))
	if err != 0 || len(got) > 2 || answer != 3 || e != 0 {
		t.Errorf("Optimize: %v, %d, answers %d, %d", got, err, answer, e)
	}
}

// example is a program and what a call makes of it.
type example struct {
	name    string
	q, want []api.Insn
}

// holdExamples holds what one call makes, and all calls by the chapter.
func holdExamples(t *testing.T, c call, l []example) {
	t.Helper()
	data := [][]byte{dataOf(0, 0), dataOf(1, 0), dataOf(2, 1), dataOf(0, 1), dataOf(1, 1), dataOf(math.MaxUint32, 7)}
	for _, x := range l {
		hold(t, x.q, data)
		if got, err := c.do(x.q); err != 0 || !slices.Equal(got, x.want) {
			t.Errorf("%s: %s of %v is %v, %d, not %v", x.name, c.name, x.q, got, err, x.want)
		}
	}
}

func TestThread(t *testing.T) {
	odd := api.Insn{Code: 0x05, Jt: 3, Jf: 4}
	farther := odd
	farther.K = 1
	holdExamples(t, call{"Thread", opt.Thread}, []example{
		{"nothing to do", []api.Insn{load(0), jeq(0, 1), ret(1), ret(2)}, []api.Insn{load(0), jeq(0, 1), ret(1), ret(2)}},
		{"three in a row", []api.Insn{ja(1), retA, ja(0), ja(1), retA, retA}, []api.Insn{ja(4), retA, ja(2), ja(1), retA, retA}},
		{"fields that are not asked for", []api.Insn{odd, ja(0), retA}, []api.Insn{farther, ja(0), retA}},
		{"two ways that are the same", []api.Insn{jeq(0, 0), jeq(1, 1), retA, retA}, []api.Insn{ja(2), ja(1), retA, retA}},
		{"ways that end at one place", []api.Insn{jeq(0, 2), ja(2), retA, ja(0), retA}, []api.Insn{ja(3), ja(2), retA, ja(0), retA}},
		{"one way over a Ja", []api.Insn{jeq(0, 1), ja(1), ret(1), ret(2)}, []api.Insn{jeq(2, 1), ja(1), ret(1), ret(2)}},
		{"the other way over a Ja", []api.Insn{jeq(1, 0), ja(1), ret(1), ret(2)}, []api.Insn{jeq(1, 2), ja(1), ret(1), ret(2)}},
		{"a Ja to a jump whose ways are the same", []api.Insn{ja(0), jeq(1, 1), ret(1), ret(2)}, []api.Insn{ja(2), ja(1), ret(1), ret(2)}},
		{"a jump that nobody comes to", []api.Insn{ret(1), ja(0), ja(0), jeq(0, 0), ret(2)}, []api.Insn{ret(1), ja(2), ja(1), ja(0), ret(2)}},
	})
}

// A jump of two ways can go over 255 instructions itself, and farther by a Ja.
func TestThreadFar(t *testing.T) {
	for _, c := range []struct {
		between int // instructions between the two Ja and the end
		jt, jf  uint8
	}{{252, 0, 254}, {253, 0, 255}, {254, 0, 1}, {300, 0, 1}} {
		for _, x := range []api.Insn{{Code: 0x15}, {Code: 0x4d}} {
			x.Jf = 1
			q := []api.Insn{x, lda(7), ja(uint32(c.between))}
			q = append(q, slices.Repeat([]api.Insn{add(1)}, c.between)...)
			q = append(q, retA)
			hold(t, q, [][]byte{dataOf(0, 0)})
			got, err := opt.Thread(q)
			if err != 0 || got[0].Code != x.Code || got[0].Jt != c.jt || got[0].Jf != c.jf {
				t.Errorf("over %d: the jump is %v, %d", c.between, got[0], err)
			}
			mirrored := slices.Clone(q)
			mirrored[0].Jt, mirrored[0].Jf = 1, 0
			hold(t, mirrored, [][]byte{dataOf(0, 0)})
			if got, err = opt.Thread(mirrored); err != 0 || got[0].Jt != c.jf || got[0].Jf != c.jt {
				t.Errorf("over %d, mirrored: the jump is %v, %d", c.between, got[0], err)
			}
		}
	}
	q := append([]api.Insn{jeq(0, 1), ja(999), ja(998)}, slices.Repeat([]api.Insn{add(1)}, 998)...)
	q = append(q, retA)
	hold(t, q, [][]byte{dataOf(0, 0)})
	if got, err := opt.Thread(q); err != 0 || got[0] != ja(1000) {
		t.Errorf("two ways that end at one far place: %v, %d", got[0], err)
	}
}

func TestFold(t *testing.T) {
	same := func(name string, q ...api.Insn) example { return example{name, q, q} }
	holdExamples(t, call{"Fold", opt.Fold}, []example{
		{"one behind the other", []api.Insn{lda(1), add(2), tax, op(0x0c), retA}, []api.Insn{lda(1), lda(3), ldx(3), lda(6), retA}},
		{"all is 0 at first", []api.Insn{add(5), op(0x0c), txa, mem(15), memx(0), retA}, []api.Insn{lda(5), lda(5), lda(0), lda(0), ldx(0), retA}},
		{"how many bytes there are", []api.Insn{op(0x80), op(0x81), op(0x1c), retA}, []api.Insn{lda(64), ldx(64), lda(0), retA}},
		{"by scratch words", []api.Insn{lda(7), st(15), ldx(2), stx(0), mem(0), memx(15), retA}, []api.Insn{lda(7), st(15), ldx(2), stx(0), lda(2), ldx(7), retA}},
		same("the data", load(0), st(1), tax, op(0x0c), mem(1), retA),
		{"a scratch word that is set again", []api.Insn{load(0), st(1), lda(4), st(1), memx(1), retA}, []api.Insn{load(0), st(1), lda(4), st(1), ldx(4), retA}},
		same("X alone is not enough", load(0), ldx(3), op(0x0c), op(0x2d), retA),
		same("A alone is not enough", load(0), tax, lda(3), op(0x0c), api.Insn{Code: 0x15, K: 3}, retA),
		{"X behind what is not known", []api.Insn{load(0), tax, lda(3), op(0x0c), lda(3), tax, op(0x0c), retA}, []api.Insn{load(0), tax, lda(3), op(0x0c), lda(3), ldx(3), lda(6), retA}},
		{"moves by X are by its low bits", []api.Insn{lda(1), ldx(33), op(0x6c), op(0x6c), op(0x7c), retA}, []api.Insn{lda(1), ldx(33), lda(2), lda(4), lda(2), retA}},
		{"it wraps round", []api.Insn{lda(0), api.Insn{Code: 0x14, K: 1}, add(3), op(0x84), api.Insn{Code: 0x24, K: 0x80000001}, retA}, []api.Insn{lda(0), lda(math.MaxUint32), lda(2), lda(0xfffffffe), lda(0xfffffffe), retA}},
		{"divided by X", []api.Insn{lda(7), ldx(2), op(0x3c), retA}, []api.Insn{lda(7), ldx(2), lda(3), retA}},
		same("divided by 0 it ends", lda(7), op(0x3c), ret(9)),
		same("A behind such a division", lda(7), op(0x3c), st(1), tax, retA),
		{"the way of Jt", []api.Insn{lda(1), jeq(1, 0), ret(1), ret(2)}, []api.Insn{lda(1), ja(1), ret(1), ret(2)}},
		{"the way of Jf", []api.Insn{lda(2), jeq(1, 0), ret(1), ret(2)}, []api.Insn{lda(2), ja(0), ret(1), ret(2)}},
		{"jumps that ask for X", []api.Insn{lda(2), ldx(3), api.Insn{Code: 0x2d, Jt: 1}, api.Insn{Code: 0x4d, Jt: 1}, ret(1), retA}, []api.Insn{lda(2), ldx(3), ja(0), ja(1), ret(1), retA}},
		same("a jump that looks at the data", load(0), jeq(1, 0), ret(1), ret(2)),
		{"the same on two ways", []api.Insn{load(0), jeq(0, 2), lda(3), ja(1), lda(3), add(1), retA}, []api.Insn{load(0), jeq(0, 2), lda(3), ja(1), lda(3), lda(4), retA}},
		same("not the same on two ways", load(0), jeq(0, 2), lda(3), ja(1), lda(4), add(1), retA),
		same("known on one way alone", lda(3), load(0), jeq(0, 1), lda(3), add(1), retA),
		same("A scratch word on one way alone", load(0), jeq(0, 2), lda(3), st(2), mem(2), retA),
		{"not by a way that nobody goes", []api.Insn{lda(3), ja(1), lda(4), add(1), retA}, []api.Insn{lda(3), ja(1), lda(4), lda(4), retA}},
		{"by a way that could be told not to be gone", []api.Insn{lda(1), jeq(1, 0), load(0), add(1), retA}, []api.Insn{lda(1), ja(1), load(0), add(1), retA}},
		same("what nobody comes to", ret(1), lda(1), tax, add(1), jeq(0, 0), retA),
	})
}

func TestSweep(t *testing.T) {
	same := func(name string, q ...api.Insn) example { return example{name, q, q} }
	holdExamples(t, call{"Sweep", opt.Sweep}, []example{
		{"what is set again", []api.Insn{lda(1), lda(2), retA}, []api.Insn{lda(2), retA}},
		{"what is asked for by such", []api.Insn{load(0), tax, op(0x0c), lda(2), retA}, []api.Insn{lda(2), retA}},
		{"ahead of a constant", []api.Insn{load(0), st(1), memx(1), ret(3)}, []api.Insn{ret(3)}},
		same("a chain", load(0), st(1), ldx(2), mem(1), op(0x1c), retA),
		same("two ways, one asks for it", load(0), ldx(3), jeq(0, 1), txa, retA),
		{"set again on both ways", []api.Insn{load(0), ldx(3), jeq(0, 2), ldx(4), ja(1), ldx(5), txa, retA}, []api.Insn{load(0), jeq(0, 2), ldx(4), ja(1), ldx(5), txa, retA}},
		{"ahead of a Ja", []api.Insn{load(0), memx(0), ja(1), ret(1), ret(2)}, []api.Insn{ja(1), ret(1), ret(2)}},
		{"another scratch word", []api.Insn{load(0), st(1), st(2), mem(1), retA}, []api.Insn{load(0), st(1), mem(1), retA}},
		{"stored and stored over", []api.Insn{load(0), st(1), stx(1), mem(1), retA}, []api.Insn{stx(1), mem(1), retA}},
		same("a division that may end it", load(0), tax, op(0x3c), ret(3)),
		{"a division by a constant", []api.Insn{load(0), api.Insn{Code: 0x34, K: 2}, ret(3)}, []api.Insn{ret(3)}},
		{"a Ja to the next one", []api.Insn{ja(0), load(0), ja(0), ja(0), retA}, []api.Insn{load(0), retA}},
		{"a Ja that comes to lead to the next one", []api.Insn{load(0), ja(2), ldx(1), ja(0), retA}, []api.Insn{load(0), retA}},
		{"a Ja that nobody comes to", []api.Insn{ret(1), ja(0), ret(2)}, []api.Insn{ret(1), ret(2)}},
		{"a Ja over another Ja", []api.Insn{ja(1), ja(1), ja(0), ret(1)}, []api.Insn{ret(1)}},
		{"a jump whose ways are the next one", []api.Insn{load(0), jeq(0, 0), ret(1)}, []api.Insn{ret(1)}},
		{"jumps that come to lead to the next one", []api.Insn{load(0), jeq(3, 0), ldx(1), jeq(1, 0), stx(0), ret(1)}, []api.Insn{ret(1)}},
		{"ways become shorter", []api.Insn{load(0), jeq(1, 3), ldx(1), ldx(2), ret(1), ldx(3), ret(2)}, []api.Insn{load(0), jeq(0, 1), ret(1), ret(2)}},
		{"a way to one that is left out", []api.Insn{load(0), jeq(0, 1), ret(1), ldx(3), ldx(2), retA}, []api.Insn{load(0), jeq(0, 1), ret(1), retA}},
		{"a way of a Ja becomes shorter", []api.Insn{load(0), ja(3), ret(1), ldx(1), ret(2), retA}, []api.Insn{load(0), ja(2), ret(1), ret(2), retA}},
	})
}

func TestPrune(t *testing.T) {
	odd := api.Insn{Code: 0x05, Jt: 9, Jf: 8, K: 2}
	short := odd
	short.K = 0
	full := api.Insn{Code: 0x87, Jt: 1, Jf: 2, K: 0xabcdef01}
	asks := func(jt, jf uint8) api.Insn { return api.Insn{Code: 0x3d, Jt: jt, Jf: jf, K: 77} }
	holdExamples(t, call{"Prune", opt.Prune}, []example{
		{"one", []api.Insn{ret(1)}, []api.Insn{ret(1)}},
		{"all its fields", []api.Insn{full, odd, ret(1), full, retA, ret(2)}, []api.Insn{full, short, retA}},
		{"ways of a jump", []api.Insn{asks(1, 3), ret(1), ret(2), ret(3), ret(4)}, []api.Insn{asks(0, 1), ret(2), ret(4)}},
		{"its ways the other way round", []api.Insn{asks(3, 1), ret(1), ret(2), ret(3), ret(4)}, []api.Insn{asks(1, 0), ret(2), ret(4)}},
		{"two ways that are the same", []api.Insn{asks(2, 2), ret(1), ret(2), ret(3)}, []api.Insn{asks(0, 0), ret(3)}},
		{"nothing else is done", []api.Insn{ja(0), ja(0), lda(1), lda(2), jeq(0, 0), ret(3), ja(0), ret(4)}, []api.Insn{ja(0), ja(0), lda(1), lda(2), jeq(0, 0), ret(3)}},
		{"led to by what nobody comes to", []api.Insn{ja(2), ja(0), jeq(0, 1), retA, ret(2)}, []api.Insn{ja(0), retA}},
	})
}

// refused are programs that are not accepted, wherever what is wrong stands.
func refused() [][]api.Insn {
	return [][]api.Insn{
		nil, {}, slices.Repeat([]api.Insn{ret(1)}, 4097), slices.Repeat([]api.Insn{ret(1)}, 70000),
		{lda(1)},
		{ja(0)},
		{ret(1), lda(1)},
		{ja(1), ret(1)},
		{ja(math.MaxUint32), ret(1)},
		{jeq(1, 0), ret(1)},
		{jeq(0, 1), ret(1)},
		{ret(1), jeq(0, 255), ret(1)},
		{ret(1), {Code: 0x94, K: 3}, ret(1)},
		{{Code: 0xffff}, ret(1)},
		{{Code: 0x28}, ret(1)},
		{load(62), ret(1)},
		{load(64), ret(1)},
		{{Code: 0x34}, ret(1)},
		{ret(1), {Code: 0x34}, ret(1)},
		{{Code: 0x64, K: 32}, ret(1)},
		{st(16), ret(1)},
		{memx(math.MaxUint32), ret(1)},
	}
}

// Of programs that are not accepted nothing is made.
func TestRefused(t *testing.T) {
	for _, q := range refused() {
		holdRefused(t, q)
	}
	r := random(7)
	for range 3000 {
		n := 1 + r.below(20)
		q := r.program(n, r.shape(n))
		at := r.below(n)
		switch r.below(4) {
		case 0:
			q[at] = ja(uint32(n - 1 - at))
		case 1:
			q[at].Code |= 0x100
		case 2:
			q[n-1] = lda(3)
		case 3:
			q[at] = jeq(uint8(min(n-1-at, 255)), 0)
		}
		holdRefused(t, q)
	}
}
