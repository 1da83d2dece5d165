package mir_test

import (
	"fmt"
	"slices"
	"strings"
	"testing"

	"ravelin/api"
	"ravelin/cbpf"
	"ravelin/check"
	"ravelin/mir"
)

// brief is the beginning of what is told of a thing: a program may be long.
func brief(x any) string {
	s := fmt.Sprintf("%+v", x)
	return s[:min(len(s), 900)]
}

// row is the chapter's row of an operation: the fields that it names. W is a K that is a place of the data.
func row(op api.MirOp) string {
	switch {
	case op == 1:
		return "DK"
	case op == 2, op == 13:
		return "DA"
	case op == 3:
		return "DW"
	case op >= 4 && op <= 12:
		return "DAB"
	case op == 14:
		return "T"
	case op >= 15 && op <= 18:
		return "ABTF"
	case op == 19:
		return "A"
	}
	return ""
}

// names: does a row name a field?
func names(op api.MirOp, field string) bool { return strings.Contains(row(op), field) }

// fieldsOf are the registers and the targets of an instruction by their letters.
func fieldsOf(x api.Ir) map[string]int {
	return map[string]int{"D": x.D, "A": x.A, "B": x.B, "T": x.T, "F": x.F}
}

// wrong is what Check is to say of one instruction.
func wrong(p api.Mir, at int) api.Errno {
	x := p.L[at]
	if row(x.Op) == "" {
		return 123
	}
	fields := fieldsOf(x)
	for _, f := range []string{"D", "A", "B"} {
		if names(x.Op, f) && (fields[f] < 0 || fields[f] > p.Regs-1) {
			return 124
		}
	}
	if names(x.Op, "W") && !slices.Contains([]uint32{0, 4, 8, 12, 16, 20, 24, 28, 32, 36, 40, 44, 48, 52, 56, 60}, x.K) {
		return 125
	}
	for _, f := range []string{"T", "F"} {
		if names(x.Op, f) && (fields[f] <= at || fields[f] >= len(p.L)) {
			return 126
		}
	}
	return 0
}

// checkByHand is what Check is to say.
func checkByHand(p api.Mir) (api.Errno, int) {
	if p.Regs < 1 || p.Regs > 64 {
		return 121, 0
	}
	if len(p.L) < 1 || len(p.L) > 65536 {
		return 122, 0
	}
	for at := range p.L {
		if e := wrong(p, at); e != 0 {
			return e, at
		}
	}
	if last := len(p.L) - 1; p.L[last].Op != 19 {
		return 127, last
	}
	return 0, 0
}

func holdCheck(t *testing.T, p api.Mir) {
	t.Helper()
	err, at := mir.Check(p)
	if wantErr, wantAt := checkByHand(p); err != wantErr || at != wantAt {
		t.Fatalf("Check of %s is %d at %d, not %d at %d", brief(p), err, at, wantErr, wantAt)
	}
}

// usesByHand is what Uses is to say.
func usesByHand(x api.Ir) ([]int, int) {
	var l []int
	d := -1
	if names(x.Op, "A") {
		l = append(l, x.A)
	}
	if names(x.Op, "B") {
		l = append(l, x.B)
	}
	if names(x.Op, "D") {
		d = x.D
	}
	return l, d
}

func holdUses(t *testing.T, x api.Ir) {
	t.Helper()
	l, d := mir.Uses(x)
	if wantL, wantD := usesByHand(x); !slices.Equal(l, wantL) || d != wantD {
		t.Fatalf("Uses of %+v is %v, %d, not %v, %d", x, l, d, wantL, wantD)
	}
}

// nextByHand is what Next is to say.
func nextByHand(p api.Mir, at int) []int {
	if at < 0 || at >= len(p.L) {
		return nil
	}
	x := p.L[at]
	to := map[bool][]int{true: {at + 1}, false: nil}[names(x.Op, "D")]
	if names(x.Op, "T") {
		to = append(to, x.T)
	}
	if names(x.Op, "F") && x.F != x.T {
		to = append(to, x.F)
	}
	return slices.DeleteFunc(to, func(n int) bool { return n < 0 || n > len(p.L)-1 })
}

// holdNext holds Next at each place, and beside them.
func holdNext(t *testing.T, p api.Mir) {
	t.Helper()
	for at := -1; at <= len(p.L); at++ {
		if got, want := mir.Next(p, at), nextByHand(p, at); !slices.Equal(got, want) {
			t.Fatalf("Next of %s at %d is %v, not %v", brief(p), at, got, want)
		}
	}
}

// bitwise puts a word together of the bits of two, bit by bit.
func bitwise(a, b uint64, bit func(x, y bool) bool) uint64 {
	var w uint64
	for i := range 32 {
		if bit(a>>i&1 == 1, b>>i&1 == 1) {
			w += 1 << i
		}
	}
	return w
}

// numberByHand is what an operation of numbers makes, in numbers that are longer than 32 bits.
func numberByHand(op api.MirOp, a, b uint64) uint64 {
	const all = 1 << 32
	switch op {
	case 2:
		return a
	case 4:
		return (a + b) % all
	case 5:
		return (a + all - b) % all
	case 6:
		return a * b % all
	case 7:
		return a / b
	case 8:
		return bitwise(a, b, func(x, y bool) bool { return x && y })
	case 9:
		return bitwise(a, b, func(x, y bool) bool { return x || y })
	case 10:
		return bitwise(a, b, func(x, y bool) bool { return x != y })
	case 11:
		for range b % 32 {
			a = a * 2 % all
		}
		return a
	case 12:
		for range b % 32 {
			a /= 2
		}
		return a
	}
	return (all - a) % all
}

// testByHand: does a test hold?
func testByHand(op api.MirOp, a, b uint64) bool {
	switch op {
	case 15:
		return a == b
	case 16:
		return a > b
	case 17:
		return a == b || a > b
	}
	return bitwise(a, b, func(x, y bool) bool { return x && y }) > 0
}

// outcome is what Run says.
type outcome struct {
	answer uint32
	steps  int
	err    api.Errno
	at     int
}

func run(p api.Mir, data []byte) outcome {
	answer, steps, err, at := mir.Run(p, data)
	return outcome{answer, steps, err, at}
}

// runByHand is what Run is to say.
func runByHand(p api.Mir, data []byte) outcome {
	if err, at := checkByHand(p); err != 0 {
		return outcome{0, 0, err, at}
	}
	if len(data) != 64 {
		return outcome{0, 0, 21, 0}
	}
	has := make(map[int]uint64)
	at := 0
	for steps := 0; ; steps++ {
		x := p.L[at]
		a, b := has[x.A], has[x.B]
		at++
		switch {
		case x.Op == 19:
			return outcome{uint32(a), steps + 1, 0, 0}
		case x.Op == 7 && b == 0:
			return outcome{0, steps, 8, at - 1}
		case x.Op == 14:
			at = x.T
		case x.Op >= 15:
			at = x.F
			if testByHand(x.Op, a, b) {
				at = x.T
			}
		case x.Op == 1:
			has[x.D] = uint64(x.K)
		case x.Op == 3:
			has[x.D] = 0
			for i := range 4 {
				has[x.D] += uint64(data[int(x.K)+i]) << (8 * i)
			}
		default:
			has[x.D] = numberByHand(x.Op, a, b)
		}
	}
}

// holdRun holds Run against the chapter; what is right ends in time (P12.2).
func holdRun(t *testing.T, p api.Mir, data []byte) outcome {
	t.Helper()
	got, want := run(p, data), runByHand(p, data)
	if got != want {
		t.Fatalf("Run of %s over %v is %+v, not %+v", brief(p), data, got, want)
	}
	if got.steps > len(p.L) {
		t.Fatalf("Run of %s over %v does %d steps", brief(p), data, got.steps)
	}
	return got
}

// asksK: is a Code one of those whose K is a constant?
func asksK(code uint16) bool {
	return slices.Contains([]uint16{0x06, 0x00, 0x01, 0x04, 0x14, 0x24, 0x34, 0x44, 0x54, 0x64, 0x74, 0xa4, 0x15, 0x25, 0x35, 0x45}, code)
}

// holdNumbers: each MirConst has a constant of the program, or 0, or 64, and no constant stands elsewhere; fields that an instruction has no use for are 0.
func holdNumbers(t *testing.T, q []api.Insn, p api.Mir) {
	t.Helper()
	constants := map[uint32]int{0: 1, 64: 1}
	places := map[uint32]int{}
	for _, in := range q {
		if asksK(in.Code) {
			constants[in.K]++
		}
		if in.Code == 0x20 {
			places[in.K]++
		}
	}
	for at, x := range p.L {
		switch {
		case x.Op == 1 && constants[x.K] == 0:
			t.Fatalf("From of %s is %s: the constant at %d is none of the program's", brief(q), brief(p), at)
		case x.Op == 3 && places[x.K] == 0:
			t.Fatalf("From of %s is %s: the word at %d is none of the program's", brief(q), brief(p), at)
		case x.Op != 1 && x.Op != 3 && x.K != 0:
			t.Fatalf("From of %s is %s: there is a number at %d", brief(q), brief(p), at)
		}
		for f, n := range fieldsOf(x) {
			if !names(x.Op, f) && n != 0 {
				t.Fatalf("From of %s is %s: at %d there is a %s", brief(q), brief(p), at, f)
			}
		}
	}
}

// holdFrom holds From of an accepted program against the chapter, and its runs over data (P12.1).
func holdFrom(t *testing.T, q []api.Insn, data ...[]byte) api.Mir {
	t.Helper()
	if err, at := check.Check(q); err != 0 {
		t.Fatalf("%s is not accepted: %d at %d", brief(q), err, at)
	}
	p, err := mir.From(q)
	if err != 0 {
		t.Fatalf("From of %s is refused: %d", brief(q), err)
	}
	if err, at := checkByHand(p); err != 0 {
		t.Fatalf("From of %s is %s: %d at %d", brief(q), brief(p), err, at)
	}
	if len(p.L) > 4*len(q) {
		t.Fatalf("From of %d instructions is %d: %s", len(q), len(p.L), brief(p))
	}
	holdNumbers(t, q, p)
	for _, b := range data {
		want, _, _, _ := cbpf.Run(q, b)
		got := run(p, b)
		if got.err != 0 || got.at != 0 || got.answer != want || got.steps > len(p.L) {
			t.Fatalf("From of %s is %s: over %v it ends with %+v, not %#x", brief(q), brief(p), b, got, want)
		}
	}
	return p
}
