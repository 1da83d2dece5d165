package alloc_test

import (
	"fmt"
	"strings"
	"testing"

	"ravelin/alloc"
	"ravelin/api"
	"ravelin/mir"
)

// brief is the beginning of what is told of a thing: a program may be long.
func brief(x any) string {
	s := fmt.Sprintf("%+v", x)
	return s[:min(len(s), 900)]
}

// row is layer 12's row of an operation: the fields that it names. W is a K that is a place of the data.
func row(op api.MirOp) string {
	switch {
	case op == 1:
		return "DK"
	case op == 2, op == 13:
		return "DA"
	case op == 3:
		return "DW"
	case op >= 4 && op <= 12:
		return "DAB"
	case op == 14:
		return "T"
	case op >= 15 && op <= 18:
		return "ABTF"
	}
	return "A"
}

// names: does a row name a field?
func names(op api.MirOp, field string) bool { return strings.Contains(row(op), field) }

// uses: does an instruction use a register?
func uses(x api.Ir, reg int) bool {
	return names(x.Op, "A") && x.A == reg || names(x.Op, "B") && x.B == reg
}

// leads are the places to which an instruction of a right Mir leads.
func leads(p api.Mir, at int) []int {
	x := p.L[at]
	var l []int
	if names(x.Op, "D") {
		l = append(l, at+1)
	}
	if names(x.Op, "T") {
		l = append(l, x.T)
	}
	if names(x.Op, "F") {
		l = append(l, x.F)
	}
	return l
}

// account is what the chapters say of a right Mir: what is asked for at first, and behind each instruction; which register each one sets, or -1.
type account struct {
	regs   int
	first  []bool
	behind [][]bool
	sets   []int
}

func newAccount(p api.Mir) account {
	n := len(p.L)
	c := account{regs: p.Regs, behind: make([][]bool, n), sets: make([]int, n)}
	from := make([][]bool, n) // what the ways that begin with an instruction ask for
	for at := n - 1; at >= 0; at-- {
		x := p.L[at]
		c.sets[at] = -1
		if names(x.Op, "D") {
			c.sets[at] = x.D
		}
		c.behind[at], from[at] = make([]bool, p.Regs), make([]bool, p.Regs)
		for reg := range p.Regs {
			for _, to := range leads(p, at) {
				c.behind[at][reg] = c.behind[at][reg] || from[to][reg]
			}
			from[at][reg] = uses(x, reg) || c.behind[at][reg] && c.sets[at] != reg
		}
	}
	c.first = from[0]
	return c
}

// conflict: do two registers conflict?
func (c account) conflict(a, b int) bool {
	if c.first[a] && c.first[b] {
		return true
	}
	for at, asked := range c.behind {
		if asked[a] && asked[b] || c.sets[at] == a && asked[b] || c.sets[at] == b && asked[a] {
			return true
		}
	}
	return false
}

// check is what Check is to answer of homes of the Mir.
func (c account) check(h []api.Home, regs int) (api.Errno, int) {
	if regs < 0 || regs > 32 {
		return 1, 0
	}
	if len(h) != c.regs {
		return 141, 0
	}
	for reg, home := range h {
		if home.N < 0 || home.Slot && home.N > 63 || !home.Slot && home.N > regs-1 {
			return 142, reg
		}
	}
	for reg := range h {
		for lower := range reg {
			if h[lower].Slot == h[reg].Slot && h[lower].N == h[reg].N && c.conflict(lower, reg) {
				return 143, reg
			}
		}
	}
	return 0, 0
}

// spans tells of each register where it lives, from a place to another one; and whether it lives at all.
func (c account) spans(p api.Mir) (from, to []int, lives []bool) {
	from, to, lives = make([]int, c.regs), make([]int, c.regs), make([]bool, c.regs)
	for at, x := range p.L {
		for reg := range c.regs {
			if at == 0 && c.first[reg] || uses(x, reg) || c.sets[at] == reg || c.behind[at][reg] {
				if !lives[reg] {
					from[reg] = at
				}
				lives[reg], to[reg] = true, at
			}
		}
	}
	return from, to, lives
}

// overlap is how many spans lie over one another at most.
func (c account) overlap(p api.Mir) int {
	from, to, lives := c.spans(p)
	return mostOver(from, to, lives)
}

// mostOver is how many of such spans lie over one another at most: as many as over the beginning of one of them.
func mostOver(from, to []int, is []bool) int {
	most := 0
	for reg := range is {
		n := 0
		for other := range is {
			if is[reg] && is[other] && from[other] <= from[reg] && from[reg] <= to[other] {
				n++
			}
		}
		most = max(most, n)
	}
	return most
}

// slotsOf is what Slots is to answer.
func slotsOf(h []api.Home) int {
	for n := 63; n >= 0; n-- {
		for _, home := range h {
			if home.Slot && home.N == n {
				return n + 1
			}
		}
	}
	return 0
}

// holdCheck holds Check and Slots against the account.
func holdCheck(t *testing.T, p api.Mir, c account, h []api.Home, regs int) (api.Errno, int) {
	t.Helper()
	want, wantAt := c.check(h, regs)
	if err, at := alloc.Check(p, h, regs); err != want || at != wantAt {
		t.Fatalf("Check of %s in %s with %d is %d at %d, not %d at %d", brief(p), brief(h), regs, err, at, want, wantAt)
	}
	if n := alloc.Slots(h); n != slotsOf(h) {
		t.Fatalf("Slots of %s is %d, not %d", brief(h), n, slotsOf(h))
	}
	return want, wantAt
}

// holdAlloc holds Alloc against the account: its homes hold, its slots have no gap, and there are none if no more spans lie over one another than there are machine registers.
func holdAlloc(t *testing.T, p api.Mir, c account, regs int) []api.Home {
	t.Helper()
	h, err := alloc.Alloc(p, regs)
	if err != 0 {
		t.Fatalf("Alloc of %s with %d is refused: %d", brief(p), regs, err)
	}
	if err, at := holdCheck(t, p, c, h, regs); err != 0 {
		t.Fatalf("Alloc of %s with %d is %s: %d at %d", brief(p), regs, brief(h), err, at)
	}
	used := map[int]int{}
	for _, home := range h {
		if home.Slot {
			used[home.N]++
		}
	}
	if alloc.Slots(h) != len(used) {
		t.Fatalf("Alloc of %s with %d has gaps in its slots: %s", brief(p), regs, brief(h))
	}
	if len(used) > 0 && c.overlap(p) <= regs {
		t.Fatalf("Alloc of %s with %d has slots, though no more spans lie over one another: %s", brief(p), regs, brief(h))
	}
	return h
}

// outcome is what a run answers.
type outcome struct {
	answer uint32
	steps  int
	err    api.Errno
	at     int
}

func runIn(p api.Mir, h []api.Home, data []byte) outcome {
	w, n, err, at := alloc.Run(p, h, data)
	return outcome{w, n, err, at}
}

func run(p api.Mir, data []byte) outcome {
	w, n, err, at := mir.Run(p, data)
	return outcome{w, n, err, at}
}

// wordAt is the data's word at a place.
func wordAt(data []byte, at uint32) uint32 {
	return uint32(data[at]) + uint32(data[at+1])<<8 + uint32(data[at+2])<<16 + uint32(data[at+3])<<24
}

// result is the number to which an instruction sets its register.
func result(x api.Ir, a, b uint32, data []byte) uint32 {
	switch x.Op {
	case 1:
		return x.K
	case 3:
		return wordAt(data, x.K)
	case 13:
		return 0 - a
	}
	return [13]func() uint32{
		2:  func() uint32 { return a },
		4:  func() uint32 { return a + b },
		5:  func() uint32 { return a - b },
		6:  func() uint32 { return a * b },
		7:  func() uint32 { return a / b },
		8:  func() uint32 { return a & b },
		9:  func() uint32 { return a | b },
		10: func() uint32 { return a ^ b },
		11: func() uint32 { return a << (b % 32) },
		12: func() uint32 { return a >> (b % 32) },
	}[x.Op]()
}

// inHomes runs a right Mir in its homes, be they ones that hold or not: numbers stand in homes alone.
func inHomes(p api.Mir, h []api.Home, data []byte) outcome {
	if len(data) != 64 {
		return outcome{err: 21}
	}
	homes := map[api.Home]uint32{}
	get := func(x api.Ir, field string, reg int) uint32 {
		if names(x.Op, field) {
			return homes[h[reg]]
		}
		return 0
	}
	for at, n := 0, 0; ; n++ {
		x := p.L[at]
		a, b := get(x, "A", x.A), get(x, "B", x.B)
		switch {
		case x.Op == 7 && b == 0:
			return outcome{steps: n, err: 8, at: at}
		case x.Op == 19:
			return outcome{answer: a, steps: n + 1}
		case names(x.Op, "D"):
			homes[h[x.D]] = result(x, a, b, data)
			at++
		case x.Op == 14 || x.Op == 15 && a == b || x.Op == 16 && a > b || x.Op == 17 && a >= b || x.Op == 18 && a&b != 0:
			at = x.T
		default:
			at = x.F
		}
	}
}

// holdRun holds Run against the account, in homes that hold: it is also what layer 12's Run answers (P14.1).
func holdRun(t *testing.T, p api.Mir, h []api.Home, data []byte) outcome {
	t.Helper()
	got := runIn(p, h, data)
	if want := run(p, data); got != want {
		t.Fatalf("Run of %s in %s over %v is %+v, not %+v as layer 12 says", brief(p), brief(h), data, got, want)
	}
	if want := inHomes(p, h, data); got != want {
		t.Fatalf("Run of %s in %s over %v is %+v, not %+v", brief(p), brief(h), data, got, want)
	}
	return got
}
