package lower_test

import (
	"slices"
	"testing"

	"ravelin/api"
	"ravelin/cbpf"
	"ravelin/check"
	"ravelin/decision"
	"ravelin/lower"
	"ravelin/secdata"
)

// full is a mask of a word that lets all bits through.
const full = 0xffffffff

// line is an instruction by the chapter's words: its own name, and what its ways go to by names: of a jump T's and F's, of a JA one.
type line struct {
	code uint16
	k    uint32
	name int
	to   []int
}

// Names of a node's first instruction, and of its long ways.
func firstOf(at int) int     { return 3 * at }
func longOf(at, way int) int { return 3*at + 1 + way }

// lines are the instructions of a decision, in which the ways with such names have a long way.
func lines(l []api.Node, long map[int]bool) []line {
	var q []line
	for at, n := range l {
		if n.Leaf {
			q = append(q, line{0x06, n.Word, firstOf(at), nil})
			continue
		}
		q = append(q, line{0x20, uint32(n.Off), firstOf(at), nil})
		if n.Mask < full {
			q = append(q, line{0x54, n.Mask, -1, nil})
		}
		jump := line{[]uint16{0, 0x15, 0x25, 0x35, 0x45}[n.Op], n.K, -1, nil}
		var behind []line
		for way, to := range []int{n.T, n.F} {
			if name := longOf(at, way); long[name] {
				jump.to = append(jump.to, name)
				behind = append(behind, line{0x05, 0, name, []int{firstOf(to)}})
			} else {
				jump.to = append(jump.to, firstOf(to))
			}
		}
		q = append(append(q, jump), behind...)
	}
	return q
}

// emitByHand is the program of a decision, however long, and how often it was laid.
func emitByHand(l []api.Node) ([]api.Insn, int) {
	long := map[int]bool{}
	for times := 1; ; times++ {
		q := lines(l, long)
		places := make([]int, 3*len(l))
		for at, x := range q {
			if x.name >= 0 {
				places[x.name] = at
			}
		}
		var program []api.Insn
		test, more := -1, len(long)
		for at, x := range q {
			if x.name >= 0 && x.name%3 == 0 {
				test = x.name / 3
			}
			in := api.Insn{Code: x.code, K: x.k}
			if len(x.to) == 1 {
				in.K = uint32(places[x.to[0]] - at - 1)
			}
			if len(x.to) == 2 {
				t, f := places[x.to[0]]-at-1, places[x.to[1]]-at-1
				if t > 255 {
					long[longOf(test, 0)] = true
				}
				if f > 255 {
					long[longOf(test, 1)] = true
				}
				in.Jt, in.Jf = uint8(t), uint8(f)
			}
			program = append(program, in)
		}
		if len(long) == more {
			return program, times
		}
	}
}

// holdEmit holds Size and Emit of a decision against the chapter.
func holdEmit(t *testing.T, l []api.Node) []api.Insn {
	t.Helper()
	want, _ := emitByHand(l)
	if n, err := lower.Size(l); n != len(want) || err != 0 {
		t.Fatalf("Size of %.500v is %d, %d, not %d", l, n, err, len(want))
	}
	q, err := lower.Emit(l)
	if len(want) > 4096 {
		if len(q) != 0 || err != 91 {
			t.Fatalf("Emit of %.500v is %d instructions, %d, though it becomes %d", l, len(q), err, len(want))
		}
		return nil
	}
	if err != 0 || !slices.Equal(q, want) {
		t.Fatalf("Emit of %.500v is %.500v, %d, not %.500v", l, q, err, want)
	}
	if err, at := check.Check(q); err != 0 {
		t.Fatalf("what Emit makes of %.500v is not accepted: %d at %d", l, err, at)
	}
	return q
}

// holdRun: a program answers what the decision answers, in few steps (P9.2, P9.3).
func holdRun(t *testing.T, l []api.Node, q []api.Insn, d api.Data) (uint32, int) {
	t.Helper()
	want, met, err := decision.Run(l, d)
	if err != 0 {
		t.Fatalf("Run of %.500v is %d", l, err)
	}
	w, steps, err, at := cbpf.Run(q, secdata.Bytes(d))
	if w != want || err != 0 {
		t.Fatalf("the program of %.500v answers %#x, %d at %d, over %v, not %#x", l, w, err, at, d, want)
	}
	if steps > 5*met || met > 1 && steps < 2 {
		t.Fatalf("the program of %.500v does %d steps over %v, where %d nodes are come to", l, steps, d, met)
	}
	return w, met
}
