package opt_test

import (
	"testing"

	"ravelin/api"
	"ravelin/cbpf"
)

// word is one that is known, or not.
type word struct {
	known bool
	w     uint32
}

// wordsByHand are those of a machine on one way to a place.
type wordsByHand struct {
	a, x word
	m    [16]word
}

func allZero() wordsByHand {
	var s wordsByHand
	s.a.known, s.x.known = true, true
	for i := range s.m {
		s.m[i].known = true
	}
	return s
}

// numberByHand is what an operation of numbers makes, with 64 bits; the lowest 32 of it count.
func numberByHand(sort uint16, a, v uint64) uint64 {
	switch sort {
	case 0x0:
		return a + v
	case 0x1:
		return a + (1<<32 - v)
	case 0x2:
		return a * v
	case 0x3:
		return a / v
	case 0x4:
		return a | v
	case 0x5:
		return a & v
	case 0x6:
		return a << (v % 32)
	case 0x7:
		return a >> (v % 32)
	case 0x8:
		return 1<<32 - a
	}
	return a&^v | v&^a
}

// setByHand is what an instruction sets (A 'a', X 'x', a scratch word 'm', none 0), and to what.
func setByHand(s *wordsByHand, in api.Insn) (byte, word) {
	switch in.Code {
	case 0x20:
		return 'a', word{}
	case 0x80:
		return 'a', word{true, 64}
	case 0x81:
		return 'x', word{true, 64}
	case 0x00:
		return 'a', word{true, in.K}
	case 0x01:
		return 'x', word{true, in.K}
	case 0x60:
		return 'a', s.m[in.K]
	case 0x61:
		return 'x', s.m[in.K]
	case 0x02:
		return 'm', s.a
	case 0x03:
		return 'm', s.x
	case 0x07:
		return 'x', s.a
	case 0x87:
		return 'a', s.x
	}
	if in.Code&7 != 4 {
		return 0, word{}
	}
	v := word{true, in.K}
	if in.Code&8 != 0 {
		v = s.x
	}
	if in.Code == 0x84 {
		v = word{known: true}
	}
	if !s.a.known || !v.known || in.Code>>4 == 3 && v.w == 0 {
		return 'a', word{}
	}
	return 'a', word{true, uint32(numberByHand(in.Code>>4, uint64(s.a.w), uint64(v.w)))}
}

// isWay tells which way a jump goes: 1 by Jt, 0 by Jf, -1: it is not known.
func isWay(s *wordsByHand, in api.Insn) int {
	v := word{true, in.K}
	if in.Code&8 != 0 {
		v = s.x
	}
	if !s.a.known || !v.known {
		return -1
	}
	is := false
	switch in.Code >> 4 {
	case 1:
		is = s.a.w == v.w
	case 2:
		is = s.a.w > v.w
	case 3:
		is = s.a.w >= v.w
	case 4:
		is = s.a.w&v.w > 0
	}
	if is {
		return 1
	}
	return 0
}

// allWays goes all ways from the beginning, as far as there are no more than so many places on them.
func allWays(q []api.Insn, most int, look func(at int, s *wordsByHand)) bool {
	var walk func(at int, s wordsByHand) bool
	walk = func(at int, s wordsByHand) bool {
		if most--; most < 0 {
			return false
		}
		look(at, &s)
		switch cell, w := setByHand(&s, q[at]); cell {
		case 'a':
			s.a = w
		case 'x':
			s.x = w
		case 'm':
			s.m[q[at].K] = w
		}
		for _, to := range ways(q, at) {
			if !walk(to, s) {
				return false
			}
		}
		return true
	}
	return walk(0, allZero())
}

// toldAs: is the other instruction one that does what can be told of the first, on one way to it?
func toldAs(s *wordsByHand, in, other api.Insn) bool {
	if isBranch(in) {
		over := []uint8{in.Jf, in.Jt}
		way := isWay(s, in)
		return way >= 0 && isJa(other) && other.K == uint32(over[way])
	}
	switch cell, w := setByHand(s, in); cell {
	case 'a':
		return w.known && other.Code == 0x00 && other.K == w.w
	case 'x':
		return w.known && other.Code == 0x01 && other.K == w.w
	}
	return false
}

// holdFold holds Fold against the chapter: as many instructions, and others only where it can be told on every way what they do.
func holdFold(t *testing.T, q, got []api.Insn) {
	t.Helper()
	if len(got) != len(q) {
		t.Fatalf("Fold of %s is %s", brief(q), brief(got))
	}
	allWays(q, 5000, func(at int, s *wordsByHand) {
		if got[at] != q[at] && !toldAs(s, q[at], got[at]) {
			t.Fatalf("Fold of %s is %s: on one way to %d there is %v", brief(q), brief(got), at, *s)
		}
	})
}

// holdSteps: over data, each instruction that Fold made another one does in every run of the program what that one does.
func holdSteps(t *testing.T, q, got []api.Insn, data [][]byte) {
	t.Helper()
	for _, b := range data {
		m := cbpf.New(q, b)
		for through := false; !through; {
			_, _, _, at := m.State()
			through = m.Step()
			a, x, _, next := m.State()
			if got[at] == q[at] {
				continue
			}
			in := got[at]
			if !(in.Code == 0x00 && in.K == a && !through || in.Code == 0x01 && in.K == x || isJa(in) && at+1+int(in.K) == next) {
				t.Fatalf("Fold of %s is %s: over %v, behind %d there are %#x, %#x at %d", brief(q), brief(got), b, at, a, x, next)
			}
		}
	}
}
