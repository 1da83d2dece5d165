package flow_test

import (
	"math"
	"slices"
	"testing"

	"ravelin/api"
	"ravelin/flow"
)

// returns are n instructions that return.
func returns(n int) []api.Insn {
	return slices.Repeat([]api.Insn{{Code: 0x06, K: 1}}, n)
}

// example is the chapter's program.
func example() []api.Insn {
	return []api.Insn{{Code: 0x20}, {Code: 0x15, Jf: 1, K: 5}, {Code: 0x06, K: 1}, {Code: 0x06, K: 2}, {Code: 0x06, K: 3}}
}

func TestNextExamples(t *testing.T) {
	for at, want := range map[int][]int{
		0: {1}, 1: {2, 3}, 2: nil, 3: nil, 4: nil,
		5: nil, 9: nil, -1: nil, -9: nil,
		math.MaxInt: nil, math.MaxInt - 1: nil, math.MinInt: nil, math.MinInt + 1: nil, 1 << 32: nil, 1<<32 + 1: nil,
	} {
		if l := flow.Next(example(), at); !slices.Equal(l, want) {
			t.Errorf("Next of %d is %v", at, l)
		}
	}
	for _, at := range []int{0, 1, -1, math.MaxInt, math.MinInt} {
		if l := flow.Next(nil, at); len(l) != 0 {
			t.Errorf("Next of %d of no program is %v", at, l)
		}
	}
}

// Each Code that there could be: those that are no operations lead to the next place.
func TestNextOfAllCodes(t *testing.T) {
	for code := range 1 << 16 {
		for _, in := range []api.Insn{{Code: uint16(code), Jt: 1, Jf: 2, K: 3}, {Code: uint16(code), Jt: 4, Jf: 4, K: 5}, {Code: uint16(code), Jt: 3, Jf: 0, K: 1}} {
			q := slices.Insert(returns(6), 1, in)
			if got, want := flow.Next(q, 1), nextByHand(q, 1); !slices.Equal(got, want) {
				t.Fatalf("Next of %v at 1 of %d is %v, not %v", in, len(q), got, want)
			}
		}
		if l := flow.Next([]api.Insn{{Code: uint16(code)}}, 0); len(l) != 0 {
			t.Fatalf("Next of the Code %#x alone is %v", code, l)
		}
	}
	for _, code := range []uint16{0x55, 0x0d, 0x85, 0x95, 0x115, 0x8005, 0x26, 0x0e, 0x1e, 0x106, 0xffff} {
		if l := flow.Next([]api.Insn{{Code: code, Jt: 1, Jf: 1, K: 1}, {}, {}}, 0); !slices.Equal(l, []int{1}) {
			t.Errorf("Next of %#x is %v", code, l)
		}
	}
}

// branches are the jumps of two ways.
func branches() []uint16 { return []uint16{0x15, 0x25, 0x35, 0x45, 0x1d, 0x2d, 0x3d, 0x4d} }

// Ways to the last place, and behind it; two that are the same one; T's is told ahead of F's.
func TestNextOfWays(t *testing.T) {
	for _, n := range []int{1, 2, 3, 5, 255, 256, 257, 258, 300} {
		for _, at := range []int{0, 1, n / 2, n - 2, n - 1} {
			if at < 0 || at >= n {
				continue
			}
			q := returns(n)
			for _, over := range []int{0, 1, 2, n - at - 3, n - at - 2, n - at - 1, n - at, 254, 255} {
				over = min(max(over, 0), 255)
				for _, other := range []uint8{0, 1, 2, 254, 255, uint8(over)} {
					for _, code := range branches() {
						q[at] = api.Insn{Code: code, Jt: uint8(over), Jf: other, K: 1}
						holdNext(t, q[:n:n])
						q[at].Jt, q[at].Jf = q[at].Jf, q[at].Jt
						holdNext(t, q[:n:n])
					}
				}
			}
		}
	}
	q := append([]api.Insn{{Code: 0x15, Jt: 2, Jf: 0}}, returns(3)...)
	for _, c := range []struct {
		jt, jf uint8
		want   []int
	}{
		{2, 0, []int{3, 1}}, {0, 2, []int{1, 3}}, {1, 1, []int{2}}, {3, 1, []int{2}}, {1, 3, []int{2}}, {3, 3, nil}, {255, 4, nil}, {255, 0, []int{1}},
	} {
		q[0].Jt, q[0].Jf = c.jt, c.jf
		if l := flow.Next(q, 0); !slices.Equal(l, c.want) {
			t.Errorf("Next of a jump by %d and %d is %v", c.jt, c.jf, l)
		}
	}
}

// A Ja goes as far as there is a place, however great its K.
func TestNextOfJa(t *testing.T) {
	q := returns(4096)
	for _, at := range []int{0, 1, 7, 4000, 4094, 4095} {
		for _, k := range []uint32{0, 1, 255, 256, 4093, 4094, 4095, 4096, 65535, 65536, math.MaxInt32, 1 << 31, math.MaxUint32 - 4095, math.MaxUint32 - uint32(at), math.MaxUint32 - 1, math.MaxUint32} {
			q[at] = api.Insn{Code: 0x05, Jt: 1, Jf: 2, K: k}
			var want []int
			if to := int64(at) + int64(k) + 1; to < 4096 {
				want = []int{int(to)}
			}
			if l := flow.Next(q, at); !slices.Equal(l, want) {
				t.Errorf("Next of a Ja by %d at %d is %v, not %v", k, at, l, want)
			}
		}
		q[at] = api.Insn{Code: 0x06}
	}
}

// Of a program that is no program Next is asked too, and changes nothing of it.
func TestNextOfAnyInstructions(t *testing.T) {
	r := random(5)
	for range 20000 {
		q := make([]api.Insn, r.below(12), 14)
		for i := range q[:cap(q)] {
			q[:cap(q)][i] = api.Insn{Code: r.code(), Jt: uint8(r.below(14)), Jf: uint8(r.below(14)), K: uint32(r.below(14))}
		}
		keep := slices.Clone(q[:cap(q)])
		holdNext(t, q)
		for at := range q {
			l := flow.Next(q, at)
			for i := range l[:cap(l)] {
				l[:cap(l)][i] = -1
			}
		}
		holdNext(t, q)
		if !slices.Equal(keep, q[:cap(q)]) {
			t.Fatalf("%v is %v now", keep, q[:cap(q)])
		}
	}
}
