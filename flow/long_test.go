package flow_test

import (
	"slices"
	"testing"

	"ravelin/api"
	"ravelin/flow"
)

// fill is a program of as many instructions as there may be, the last of them a Ret.
func fill(insn func(at int) api.Insn) []api.Insn {
	q := make([]api.Insn, 4096)
	for at := range q {
		q[at] = insn(at)
	}
	q[4095] = api.Insn{Code: 0x06}
	return q
}

// capped is how far a jump goes that is to go so far, if there is as much behind it.
func capped(at, far int) uint8 { return uint8(min(far, 255, 4094-at)) }

// One block of as many instructions as there may be.
func TestLongestBlock(t *testing.T) {
	q := fill(func(int) api.Insn { return api.Insn{Code: 0x04, K: 1} })
	hold(t, q)
	if l, err := flow.Blocks(q); err != 0 || len(l) != 1 || l[0].To != 4096 || len(l[0].Next) != 0 {
		t.Errorf("Blocks are %v, %d", l, err)
	}
	if n, err := flow.Longest(q); n != 4096 || err != 0 {
		t.Errorf("Longest is %d, %d", n, err)
	}
	holdRefused(t, append(q, api.Insn{Code: 0x06}))
}

// As many blocks as there may be, each above all behind it.
func TestMostBlocks(t *testing.T) {
	for _, in := range []api.Insn{{Code: 0x05}, {Code: 0x15}, {Code: 0x4d}} {
		q := fill(func(int) api.Insn { return in })
		hold(t, q)
		above, err := flow.Above(q)
		if err != 0 || len(above) != 4096 {
			t.Fatalf("Above of %v is %d blocks, %d", in, len(above), err)
		}
		for b, up := range above {
			if up != b-1 {
				t.Fatalf("Above of %v has %d of %d", in, up, b)
			}
		}
		if n, err := flow.Longest(q); n != 4096 || err != 0 {
			t.Errorf("Longest of %v is %d, %d", in, n, err)
		}
	}
}

// Long programs of some shapes: near ways beside far ones, all to the end, many meetings behind long rows.
func TestLongPrograms(t *testing.T) {
	shapes := map[string]func(at int) api.Insn{
		"next and far":    func(at int) api.Insn { return api.Insn{Code: 0x15, Jf: capped(at, 255)} },
		"far and next":    func(at int) api.Insn { return api.Insn{Code: 0x35, Jt: capped(at, 255)} },
		"far and farther": func(at int) api.Insn { return api.Insn{Code: 0x25, Jt: capped(at, 100), Jf: capped(at, 101)} },
		"one and two":     func(at int) api.Insn { return api.Insn{Code: 0x25, Jt: capped(at, 0), Jf: capped(at, 1)} },
		"to the end by long ways": func(at int) api.Insn {
			if at%2 == 0 {
				return api.Insn{Code: 0x15, Jt: 0, Jf: capped(at, 1)}
			}
			return api.Insn{Code: 0x05, K: uint32(4094 - at)}
		},
		"rows in turns": func(at int) api.Insn {
			if at < 2000 {
				return api.Insn{Code: 0x15, Jt: 1, Jf: capped(at, 2)}
			}
			if at%7 == 0 {
				return api.Insn{Code: 0x2d, Jf: capped(at, 20)}
			}
			return api.Insn{Code: 0x00}
		},
		"one row of many blocks, and to its end from the first one": func(at int) api.Insn {
			if at == 0 {
				return api.Insn{Code: 0x15, Jf: 1}
			}
			if at == 1 {
				return api.Insn{Code: 0x05, K: 4092}
			}
			return api.Insn{Code: 0x05}
		},
	}
	for name, shape := range shapes {
		q := fill(shape)
		c := hold(t, q)
		if len(c.blocks) < 500 {
			t.Errorf("%s: %d blocks", name, len(c.blocks))
		}
	}
	holdFresh(t, slices.Clip(fill(shapes["rows in turns"])))
}

// Long programs that follow no shape.
func TestLongProgramsOfAllShapes(t *testing.T) {
	r := random(23)
	for i := range 40 {
		n := []int{255, 256, 257, 258, 1000, 4095, 4096}[i%7]
		q := r.program(n, 1+r.below(400), 1+r.below(10), r.below(2))
		hold(t, q)
		for range 5 {
			holdRun(t, q, r.data())
		}
	}
}
