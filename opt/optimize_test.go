package opt_test

import (
	"slices"
	"testing"

	"ravelin/api"
	"ravelin/opt"
	"ravelin/secdata"
)

func TestOptimize(t *testing.T) {
	same := func(name string, q ...api.Insn) example { return example{name, q, q} }
	holdExamples(t, call{"Optimize", opt.Optimize}, []example{
		same("one", ret(1)),
		same("A at first", retA),
		same("nothing to do", load(0), jeq(0, 1), ret(1), ret(2)),
		same("it may end early", load(0), tax, op(0x3c), ret(3)),
		{"all is known", []api.Insn{lda(1), add(2), retA}, []api.Insn{lda(3), retA}},
		{"a jump that can be told", []api.Insn{lda(1), jeq(0, 1), load(0), retA}, []api.Insn{load(0), retA}},
		{"known once a way is gone", []api.Insn{lda(1), jeq(1, 0), load(0), add(1), retA}, []api.Insn{lda(2), retA}},
		{"one such behind the other", []api.Insn{lda(1), jeq(1, 0), load(0), jeq(1, 0), load(4), jeq(1, 0), load(8), retA}, []api.Insn{lda(1), retA}},
		{"a Ja that comes to lead to the next one", []api.Insn{load(0), ja(1), ret(1), retA}, []api.Insn{load(0), retA}},
		{"both ways end at one place", []api.Insn{load(0), jeq(0, 2), ldx(1), ja(1), ldx(2), ret(3)}, []api.Insn{ret(3)}},
		{"ways that come to be the same", []api.Insn{load(0), jeq(0, 1), ldx(5), ret(3)}, []api.Insn{ret(3)}},
		{"a Ja that comes to lead to a Ja, with nothing left out till then",
			[]api.Insn{load(0), tax, lda(1), {Code: 0x1d, Jf: 1}, jeq(2, 0), {Code: 0x2d, Jt: 2}, stx(0), jeq(1, 0), add(5), memx(0), op(0x0c), retA},
			[]api.Insn{load(0), tax, lda(1), {Code: 0x1d, Jt: 4}, {Code: 0x2d, Jt: 2}, stx(0), ja(1), lda(6), memx(0), op(0x0c), retA}},
		{"a way that comes to be near", append(append([]api.Insn{load(0), jeq(0, 1), ret(1), ja(300)}, slices.Repeat([]api.Insn{ldx(1)}, 300)...), ret(2)), []api.Insn{load(0), jeq(0, 1), ret(1), ret(2)}},
	})
}

// straight is a program without jumps, loads of the data and divisions by X, with Rets also in its middle.
func (r *random) straight(n int) []api.Insn {
	q := make([]api.Insn, n)
	for at := range q {
		for q[at] = r.plain(1000); q[at].Code == 0x3c || q[at].Code == 0x20; {
			q[at] = r.plain(1000)
		}
		if r.below(60) == 0 {
			q[at] = []api.Insn{retA, ret(r.word())}[r.below(2)]
		}
		if r.below(3) == 0 {
			q[at] = r.odd(q[at])
		}
	}
	q[n-1] = []api.Insn{retA, ret(r.word())}[r.below(2)]
	return q
}

// P11.2: two instructions at most are left of a program that is always the same.
func TestStraightPrograms(t *testing.T) {
	r := random(13)
	data := [][]byte{dataOf(0, 0), dataOf(1, 2)}
	for i := range 6000 {
		n := 1 + r.below(40)
		if i%1000 == 0 {
			n = 4096
		}
		q := r.straight(n)
		if got := hold(t, q, data); len(got) > 2 {
			t.Fatalf("Optimize of %s is %s", brief(q), brief(got))
		}
	}
	for _, code := range numbers() {
		for _, k := range []uint32{1, 2, 3, 31} {
			for _, q := range [][]api.Insn{
				{lda(0x80000005), ldx(k), {Code: code, K: k}, retA},
				{{Code: code, K: k}, {Code: code, K: k}, {Code: code, K: k}, retA},
			} {
				if got := hold(t, q, data); code != 0x3c && len(got) > 2 {
					t.Errorf("Optimize of %v is %v", q, got)
				}
			}
		}
	}
}

// All programs of a few instructions of some sorts.
func TestAllSmallPrograms(t *testing.T) {
	data := [][]byte{dataOf(0, 0), dataOf(1, 0), dataOf(2, 0)}
	seen := 0
	look := func(q []api.Insn) {
		hold(t, q, data)
		seen++
	}
	many := []api.Insn{lda(1), ldx(1), load(0), st(0), stx(0), mem(0), memx(0), add(1), op(0x1c), op(0x3c), op(0x84), tax, txa, retA, ret(2)}
	for n := 1; n < 5; n++ {
		allPrograms(n, many, []uint16{0x15, 0x2d}, look)
	}
	allPrograms(5, []api.Insn{lda(1), load(0), tax, op(0x3c), ret(2)}, []uint16{0x15}, look)
	if seen < 30000 {
		t.Errorf("there are %d programs", seen)
	}
}

// Programs that follow no shape.
func TestProgramsOfAllShapes(t *testing.T) {
	r := random(5)
	shorter, changed, folded := 0, 0, 0
	for range 15000 {
		n := 1 + r.below(60)
		q := r.program(n, r.shape(n))
		data := r.data(6)
		got := hold(t, q, data)
		fold, _ := opt.Fold(q)
		holdSteps(t, q, fold, data)
		for at, in := range fold {
			if isJa(in) && isBranch(q[at]) {
				folded++
			}
		}
		if len(got) > 5 && len(got) < n/2 {
			shorter++
		}
		if !slices.Equal(q, got) {
			changed++
		}
		if r.below(20) == 0 {
			holdFresh(t, q)
		}
	}
	if shorter < 200 || changed < 10000 || folded < 3000 {
		t.Errorf("%d become much shorter, %d others, of %d jumps the way is told", shorter, changed, folded)
	}
}

// fill is a program of as many instructions as there may be.
func fill(insn func(at int) api.Insn) []api.Insn {
	q := make([]api.Insn, 4096)
	for at := range q {
		q[at] = insn(at)
	}
	q[4095] = retA
	return q
}

// Long programs of some shapes.
func TestLongPrograms(t *testing.T) {
	data := [][]byte{dataOf(0, 0), dataOf(1, 1), dataOf(2, 5)}
	capped := func(at, far int) uint8 { return uint8(min(far, 255, 4094-at)) }
	for _, c := range []struct {
		name string
		insn func(at int) api.Insn
		left int
	}{
		{"Ja behind Ja", func(int) api.Insn { return ja(0) }, 1},
		{"jumps of one way", func(int) api.Insn { return jeq(0, 0) }, 1},
		{"far jumps of one way", func(at int) api.Insn { return jeq(capped(at, 255), capped(at, 255)) }, 1},
		{"one number behind the other", func(int) api.Insn { return add(3) }, 2},
		{"loads", func(at int) api.Insn { return load(uint32(at % 16 * 4)) }, 2},
		{"stores that nobody asks for", func(at int) api.Insn {
			if at == 0 {
				return load(0)
			}
			return st(uint32(at % 16))
		}, 2},
		{"all is asked for", func(at int) api.Insn {
			if at == 0 {
				return load(0)
			}
			return add(3)
		}, 4096},
		{"jumps that can be told", func(at int) api.Insn { return jeq(capped(at, 7), capped(at, 1)) }, 1},
		{"a Ja far over the rest", func(at int) api.Insn {
			if at == 1 {
				return ja(4093)
			}
			return load(0)
		}, 2},
	} {
		q := fill(c.insn)
		if got := hold(t, q, data); len(got) != c.left {
			t.Errorf("%s: %d are left: %s", c.name, len(got), brief(got))
		}
		holdRefused(t, append(slices.Clone(q), retA))
	}
}

// Each jump can be told only once the load behind the one ahead of it is gone: so often all is done anew.
func TestOneByOne(t *testing.T) {
	q := fill(func(at int) api.Insn {
		if at == 0 {
			return lda(1)
		}
		return []api.Insn{load(0), jeq(1, 0)}[at%2]
	})
	q[4093], q[4094], q[4095] = add(1), add(1), retA
	if got, err := opt.Optimize(q); err != 0 || !slices.Equal(got, []api.Insn{lda(3), retA}) {
		t.Errorf("it becomes %s, %d", brief(got), err)
	}
}

// Long programs that follow no shape.
func TestLongProgramsOfAllShapes(t *testing.T) {
	r := random(29)
	for i := range 60 {
		n := []int{255, 256, 257, 258, 1000, 4095, 4096}[i%7]
		q := r.program(n, shape{1 + r.below(400), 1 + r.below(6), 0, 1 + r.below(10)})
		hold(t, q, r.data(10))
		if i%20 == 0 {
			holdFresh(t, q)
		}
	}
}

// A word of the data is the program's whatever it is called by: all sixteen of them are as they were.
func TestAllWords(t *testing.T) {
	b := secdata.Bytes(api.Data{Nr: 1, Arch: 2, IP: 0x400000003, Args: [6]uint64{5, 6, 7, 8, 9, 1 << 63}})
	for k := uint32(0); k < 64; k += 4 {
		hold(t, []api.Insn{load(k), ja(0), retA}, [][]byte{b})
		hold(t, []api.Insn{load(k), jeq(0, 1), ret(k), add(k), retA}, [][]byte{b})
	}
}
