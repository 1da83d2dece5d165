package lower_test

import (
	"testing"

	"ravelin/api"
	"ravelin/cbpf"
	"ravelin/lower"
	"ravelin/secdata"
)

// run is what a program answers, and how many steps it does.
func run(q []api.Insn, d api.Data) (uint32, int) {
	w, steps, _, _ := cbpf.Run(q, secdata.Bytes(d))
	return w, steps
}

// fan is a test of Nr ahead of leaves, to two of which it leads: how many stand ahead of those.
func fan(t, f int) []api.Node {
	return append([]api.Node{ask(1, 1+t, 1+f)}, leaves(1+max(t, f))...)
}

// What a jump, and its long ways, go over, where they are 255 or 256, or go over one another's long ways.
func TestWaysAtTheEdge(t *testing.T) {
	for _, c := range []struct {
		t, f   int // how many leaves stand ahead of T, and of F
		jt, jf uint8
		ja     []uint32
	}{
		{0, 0, 0, 0, nil},
		{0, 1, 0, 1, nil},
		{255, 0, 255, 0, nil},
		{256, 0, 0, 1, []uint32{256}},
		{0, 255, 0, 255, nil},
		{0, 256, 1, 0, []uint32{256}},
		{255, 255, 255, 255, nil},
		{256, 256, 0, 1, []uint32{257, 256}},
		{256, 254, 0, 255, []uint32{256}},
		{256, 255, 0, 1, []uint32{257, 255}},
		{254, 256, 255, 0, []uint32{256}},
		{255, 256, 0, 1, []uint32{256, 256}},
		{300, 299, 0, 1, []uint32{301, 299}},
		{299, 300, 0, 1, []uint32{300, 300}},
		{4000, 0, 0, 1, []uint32{4000}},
		{0, 4000, 1, 0, []uint32{4000}},
	} {
		l := fan(c.t, c.f)
		q := holdEmit(t, l)
		if q[1] != (api.Insn{Code: 0x15, Jt: c.jt, Jf: c.jf, K: 1}) {
			t.Errorf("over %d and %d goes %v", c.t, c.f, q[1])
		}
		if want := len(l) + 1 + len(c.ja); len(q) != want {
			t.Errorf("over %d and %d go %d instructions, not %d", c.t, c.f, len(q), want)
		}
		for i, k := range c.ja {
			if q[2+i] != (api.Insn{Code: 5, K: k}) {
				t.Errorf("over %d and %d goes %v as long way %d", c.t, c.f, q[2+i], i)
			}
		}
		for nr := range uint32(3) {
			holdRun(t, l, q, api.Data{Nr: nr})
		}
	}
}

// Ways of all lengths around the edge, with and without a mask.
func TestWaysAroundTheEdge(t *testing.T) {
	for far := 250; far < 262; far++ {
		for other := 250; other < 262; other++ {
			for _, mask := range []uint32{full, 3} {
				l := fan(far, other)
				l[0].Mask = mask
				q := holdEmit(t, l)
				holdRun(t, l, q, api.Data{Nr: 1})
				holdRun(t, l, q, api.Data{Nr: 2})
			}
		}
	}
}

// A long way that a test between gets makes a way over it longer; that of a test ahead of it, or behind what it goes to, does not.
func TestLongWaysBetween(t *testing.T) {
	for between := range 5 {
		for over := 250; over < 262; over++ { // with the long ways: three instructions a test between, one a leaf
			to := 2 + between + over - 3*between
			l := []api.Node{ask(1, 700, 700), ask(2, to, 2)}
			for range between {
				l = append(l, ask(3, len(l)+1, 700))
			}
			l = append(l, leaves(to-len(l))...)
			l = append(l, ask(4, to+1, 700))
			l = append(l, leaves(701-len(l))...)
			q := holdEmit(t, l)
			long := 2 + between + 1
			if over > 255 {
				long++
			}
			if n := count(q, 5); n != long {
				t.Errorf("a way over %d instructions, %d of them long ways: there are %d long ways in all, not %d", over, between, n, long)
			}
			for nr := range uint32(5) {
				holdRun(t, l, q, api.Data{Nr: nr})
			}
		}
	}
}

// count is how many instructions have a Code.
func count(q []api.Insn, code uint16) int {
	n := 0
	for _, in := range q {
		if in.Code == code {
			n++
		}
	}
	return n
}

// Where each laying makes one way more too far, all is laid until none is; as a great decision, and as one that is too large.
func TestWaysThatStretchOthers(t *testing.T) {
	l := cascade(900)
	if _, times := emitByHand(l); times < 800 {
		t.Fatalf("it is laid %d times alone", times)
	}
	q := holdEmit(t, l)
	if len(q) != 4*900+300 {
		t.Errorf("Emit is %d instructions", len(q))
	}
	for nr := range uint32(903) {
		holdRun(t, l, q, api.Data{Nr: nr})
	}
	// One test that leads less far holds the others back: the way over it stays short enough, so do all ahead.
	l[2*500].T--
	q = holdEmit(t, l)
	if len(q) >= 4*900+300 {
		t.Errorf("Emit is %d instructions", len(q))
	}
	for nr := range uint32(903) {
		holdRun(t, l, q, api.Data{Nr: nr})
	}
	l = cascade(1898)
	if n, err := lower.Size(l); n != 4*1898+300 || err != 0 {
		t.Errorf("Size is %d, %d", n, err)
	}
	if q, err := lower.Emit(l); len(q) != 0 || err != 91 {
		t.Errorf("Emit is %d instructions, %d", len(q), err)
	}
}
