package live_test

import (
	"fmt"
	"slices"
	"strings"
	"testing"

	"ravelin/api"
	"ravelin/live"
	"ravelin/mir"
)

// brief is the beginning of what is told of a thing: a program may be long.
func brief(x any) string {
	s := fmt.Sprintf("%+v", x)
	return s[:min(len(s), 900)]
}

// row is layer 12's row of an operation: the fields that it names. W is a K that is a place of the data.
func row(op api.MirOp) string {
	switch {
	case op == 1:
		return "DK"
	case op == 2, op == 13:
		return "DA"
	case op == 3:
		return "DW"
	case op >= 4 && op <= 12:
		return "DAB"
	case op == 14:
		return "T"
	case op >= 15 && op <= 18:
		return "ABTF"
	}
	return "A"
}

// names: does a row name a field?
func names(op api.MirOp, field string) bool { return strings.Contains(row(op), field) }

// uses: does an instruction use a register?
func uses(x api.Ir, reg int) bool {
	return names(x.Op, "A") && x.A == reg || names(x.Op, "B") && x.B == reg
}

// sets: does an instruction set a register?
func sets(x api.Ir, reg int) bool { return names(x.Op, "D") && x.D == reg }

// leads are the places to which an instruction of a right Mir leads.
func leads(p api.Mir, at int) []int {
	x := p.L[at]
	var l []int
	if names(x.Op, "D") {
		l = append(l, at+1)
	}
	if names(x.Op, "T") {
		l = append(l, x.T)
	}
	if names(x.Op, "F") {
		l = append(l, x.F)
	}
	return l
}

// account is what the chapter says of a right Mir: what is asked for behind each instruction, and at first.
type account struct {
	behind [][]bool
	first  []bool
}

func newAccount(p api.Mir) account {
	c := account{first: make([]bool, p.Regs)}
	for range p.L {
		c.behind = append(c.behind, make([]bool, p.Regs))
	}
	return c
}

// eachWay tells all ways that begin with a place: lists of places, up to one that leads nowhere.
func eachWay(p api.Mir, way []int, look func(way []int)) {
	to := leads(p, way[len(way)-1])
	if len(to) == 0 {
		look(way)
	}
	for _, next := range to {
		eachWay(p, append(slices.Clone(way), next), look)
	}
}

// asks: does a way come to an instruction that uses a register, and none ahead of it sets that?
func asks(p api.Mir, way []int, reg int) bool {
	user := slices.IndexFunc(way, func(at int) bool { return uses(p.L[at], reg) })
	setter := slices.IndexFunc(way, func(at int) bool { return sets(p.L[at], reg) })
	return user >= 0 && (setter < 0 || user <= setter)
}

// byWays is the account, word for word: all ways are gone.
func byWays(p api.Mir) account {
	c := newAccount(p)
	for reg := range p.Regs {
		for at := range p.L {
			eachWay(p, []int{at}, func(way []int) {
				c.behind[at][reg] = c.behind[at][reg] || asks(p, way[1:], reg)
				if at == 0 {
					c.first[reg] = c.first[reg] || asks(p, way, reg)
				}
			})
		}
	}
	return c
}

// byUses is the same in less time: from each instruction that uses a register back to those that lead there, as long as none sets it.
func byUses(p api.Mir) account {
	c := newAccount(p)
	from := make([][]int, len(p.L))
	for at := range p.L {
		for _, to := range leads(p, at) {
			from[to] = append(from[to], at)
		}
	}
	for reg := range p.Regs {
		var todo []int
		for at, x := range p.L {
			if uses(x, reg) {
				todo = append(todo, at)
			}
		}
		for len(todo) > 0 {
			at := todo[len(todo)-1]
			todo = todo[:len(todo)-1]
			c.first[reg] = c.first[reg] || at == 0
			for _, ahead := range from[at] {
				if !c.behind[ahead][reg] && !sets(p.L[ahead], reg) {
					todo = append(todo, ahead)
				}
				c.behind[ahead][reg] = true
			}
		}
	}
	return c
}

// spans are those that Spans is to tell: of each From, the registers by their numbers.
func (c account) spans(p api.Mir) []live.Span {
	begin := make([][]live.Span, len(p.L))
	for reg := range p.Regs {
		var places []int
		if c.first[reg] {
			places = append(places, 0)
		}
		for at, x := range p.L {
			if uses(x, reg) || sets(x, reg) || c.behind[at][reg] {
				places = append(places, at)
			}
		}
		if len(places) > 0 {
			from, to := slices.Min(places), slices.Max(places)
			begin[from] = append(begin[from], live.Span{Reg: reg, From: from, To: to})
		}
	}
	return slices.Concat(begin...)
}

// most is what Most is to tell.
func (c account) most() int {
	most := 0
	for _, l := range c.behind {
		most = max(most, len(slices.DeleteFunc(slices.Clone(l), func(is bool) bool { return !is })))
	}
	return most
}

func sameOut(a, b [][]bool) bool { return slices.EqualFunc(a, b, slices.Equal[[]bool]) }

// holdTo holds all calls of a right Mir against an account.
func holdTo(t *testing.T, p api.Mir, c account) {
	t.Helper()
	if err, at := mir.Check(p); err != 0 {
		t.Fatalf("%s is not right: %d at %d", brief(p), err, at)
	}
	out, err := live.Out(p)
	if err != 0 || !sameOut(out, c.behind) {
		t.Fatalf("Out of %s is %s, %d, not %s", brief(p), brief(out), err, brief(c.behind))
	}
	spans, err := live.Spans(p)
	if want := c.spans(p); err != 0 || !slices.Equal(spans, want) {
		t.Fatalf("Spans of %s is %s, %d, not %s", brief(p), brief(spans), err, brief(want))
	}
	if n, err := live.Most(p); err != 0 || n != c.most() {
		t.Fatalf("Most of %s is %d, %d, not %d", brief(p), n, err, c.most())
	}
	holdOutside(t, p, out, spans)
}

// holdOutside: outside its span nobody asks for a register, nor sets it (P13.2); without a span nobody does at all.
func holdOutside(t *testing.T, p api.Mir, out [][]bool, spans []live.Span) {
	t.Helper()
	from, to := make([]int, p.Regs), make([]int, p.Regs)
	for reg := range to {
		to[reg] = -1
	}
	for _, s := range spans {
		from[s.Reg], to[s.Reg] = s.From, s.To
	}
	for at, x := range p.L {
		for reg, asked := range out[at] {
			if at >= from[reg] && at <= to[reg] {
				continue
			}
			if asked || uses(x, reg) || sets(x, reg) {
				t.Fatalf("of %s, at %d, r%d is outside of its span: %s", brief(p), at, reg, brief(spans))
			}
		}
	}
}

// hold holds all calls of a right Mir that has few ways.
func hold(t *testing.T, p api.Mir) account {
	t.Helper()
	c := byWays(p)
	holdTo(t, p, c)
	return c
}

// holdMany is the same for one that has many.
func holdMany(t *testing.T, p api.Mir) account {
	t.Helper()
	c := byUses(p)
	holdTo(t, p, c)
	return c
}

// holdRefused: of a Mir that is not right there is ErrArg, and nothing else.
func holdRefused(t *testing.T, p api.Mir) {
	t.Helper()
	if err, _ := mir.Check(p); err == 0 {
		t.Fatalf("%s is right", brief(p))
	}
	if l, err := live.Out(p); len(l) != 0 || err != 1 {
		t.Errorf("Out of %s is %s, %d", brief(p), brief(l), err)
	}
	if l, err := live.Spans(p); len(l) != 0 || err != 1 {
		t.Errorf("Spans of %s is %s, %d", brief(p), brief(l), err)
	}
	if n, err := live.Most(p); n != 0 || err != 1 {
		t.Errorf("Most of %s is %d, %d", brief(p), n, err)
	}
}
