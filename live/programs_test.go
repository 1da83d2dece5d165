package live_test

import (
	"reflect"
	"slices"
	"strconv"
	"strings"
	"testing"

	"ravelin/api"
	"ravelin/live"
	"ravelin/lower"
	"ravelin/mir"
	"ravelin/opt"
	"ravelin/policy"
)

func isRight(p api.Mir) bool {
	err, _ := mir.Check(p)
	return err == 0
}

// All right ones of a few instructions, by what they use and set, and where they lead to.
func TestAllSmallPrograms(t *testing.T) {
	seen := 0
	for n := 1; n < 6; n++ {
		allMirs(n, func(p api.Mir) {
			hold(t, p)
			seen++
		})
	}
	if seen < 100000 {
		t.Errorf("there are %d", seen)
	}
}

// Right ones that follow no shape, with many jumps and few, far ones and near ones, many registers and few.
func TestProgramsOfAllShapes(t *testing.T) {
	r := random(7)
	seen := map[string]int{}
	count := func(name string, is bool) {
		if is {
			seen[name]++
		}
	}
	for range 8000 {
		n := 1 + r.below(14)
		p := r.mir([]int{1, 2, 3, 6, 64}[r.below(5)], n, shape{far: 1 + r.below(n), jumps: r.below(9), ends: r.below(3)})
		c := hold(t, p)
		if other := byUses(p); !reflect.DeepEqual(c, other) {
			t.Fatalf("of %s: %s, %s", brief(p), brief(c), brief(other))
		}
		spans := c.spans(p)
		count("asked for at first", slices.Contains(c.first, true))
		count("some nobody names", len(spans) < p.Regs)
		count("many at once", c.most() > 2)
		count("none at once", c.most() == 0)
		count("a high register behind a low one", !slices.IsSortedFunc(spans, func(a, b live.Span) int { return a.Reg - b.Reg }))
	}
	for _, name := range []string{"asked for at first", "some nobody names", "many at once", "none at once", "a high register behind a low one"} {
		if seen[name] < 500 {
			t.Errorf("%s: %d", name, seen[name])
		}
	}
}

// Longer ones: all their ways are too many.
func TestLongerProgramsOfAllShapes(t *testing.T) {
	r := random(19)
	for range 1500 {
		n := 1 + r.below(200)
		p := r.mir(1+r.below(64), n, shape{far: 1 + r.below(n), jumps: r.below(9), ends: r.below(2)})
		holdMany(t, p)
	}
}

// As many instructions and registers as there may be.
func TestLongestPrograms(t *testing.T) {
	const n = 65536
	inRow := slices.Repeat([]api.Ir{konst(0, 1)}, n)
	inRow[n-1] = answer(63)
	p := api.Mir{Regs: 64, L: inRow}
	holdMany(t, p)
	if l, _ := live.Spans(p); !slices.Equal(l, []live.Span{{Reg: 0, From: 0, To: n - 2}, {Reg: 63, From: 0, To: n - 1}}) {
		t.Errorf("Spans is %s", brief(l))
	}
	// All of them live from the beginning to the end, and one place less each.
	allAlive := slices.Repeat([]api.Ir{three(api.MirAdd, 0, 0, 0)}, n)
	for reg := range 64 {
		allAlive[n-65+reg] = three(api.MirXor, 0, 0, reg)
	}
	allAlive[n-1] = answer(0)
	p.L = allAlive
	c := holdMany(t, p)
	if c.most() != 64 {
		t.Errorf("%d live at once", c.most())
	}
	// A way from the first one to the last one, over all.
	over := slices.Clone(allAlive)
	over[0] = jump(n - 1)
	holdMany(t, api.Mir{Regs: 64, L: over})
	r := random(29)
	for _, s := range []shape{{far: n, jumps: 2}, {far: 3, jumps: 6}, {far: 300, jumps: 11, ends: 1}, {far: 1}} {
		holdMany(t, r.mir(64, n, s))
		holdMany(t, r.mir(3, n, s))
	}
}

// What policies' programs become, optimized or not.
func TestSpansOfPolicies(t *testing.T) {
	r := random(53)
	for _, rules := range []int{0, 1, 9, 150} {
		var text strings.Builder
		text.WriteString("arch x86_64; foreign kill_process; default errno 1;")
		for i := range rules {
			text.WriteString(" on " + strconv.Itoa(1000+i) + " when arg1 & 0xff == " + strconv.Itoa(i) + " or arg2 > 7 do errno " + strconv.Itoa(2+i) + ";")
		}
		p, err, _ := policy.Parse(text.String())
		if err != 0 {
			t.Fatalf("the text is refused: %d", err)
		}
		q, err := lower.Lower(p)
		if err != 0 {
			t.Fatalf("there is no program of %d rules: %d", rules, err)
		}
		shorter, _ := opt.Optimize(q)
		for _, program := range [][]api.Insn{q, shorter} {
			m, err := mir.From(program)
			if err != 0 {
				t.Fatalf("From is refused: %d", err)
			}
			holdMany(t, m)
			for range 20 {
				holdAnyNumbers(t, &r, m, r.below(len(m.L)))
			}
		}
	}
}

// holdAnyNumbers: behind an instruction, registers that are not asked for there have any numbers, and a run that goes on from there answers the same (P13.1).
func holdAnyNumbers(t *testing.T, r *random, p api.Mir, at int) (changed, divided bool) {
	t.Helper()
	out, err := live.Out(p)
	if err != 0 {
		t.Fatalf("Out of %s is refused: %d", brief(p), err)
	}
	data := r.data()
	for _, to := range mir.Next(p, at) {
		numbers := r.words(p.Regs)
		others := slices.Clone(numbers)
		for reg, asked := range out[at] {
			if !asked {
				others[reg] = r.word()
				changed = changed || others[reg] != numbers[reg]
			}
		}
		first, second := entered(p, to, numbers), entered(p, to, others)
		a1, n1, e1, at1 := mir.Run(first, data)
		a2, n2, e2, at2 := mir.Run(second, data)
		if a1 != a2 || n1 != n2 || e1 != e2 || at1 != at2 || n1 <= p.Regs {
			t.Fatalf("of %s, from %d on, with %v it is %d, %d, %d, %d, with %v %d, %d, %d, %d", brief(p), to, numbers, a1, n1, e1, at1, others, a2, n2, e2, at2)
		}
		divided = divided || e1 != 0
	}
	return changed, divided
}

// P13.1 of right ones that follow no shape, at each place.
func TestAnyNumbers(t *testing.T) {
	r := random(61)
	runs, faults := 0, 0
	for range 8000 {
		n := 1 + r.below(20)
		p := r.mir(1+r.below(7), n, shape{far: 1 + r.below(6), jumps: r.below(8), ends: r.below(2)})
		for at := range p.L {
			changed, divided := holdAnyNumbers(t, &r, p, at)
			if changed {
				runs++
			}
			if divided {
				faults++
			}
		}
	}
	if runs < 10000 || faults < 1000 {
		t.Errorf("%d runs with other numbers, %d divide by 0", runs, faults)
	}
}

// A Mir is not changed, nor its spare room, nor kept; what comes out shares no memory with it or with anything else that came out.
func TestAnswersAreNew(t *testing.T) {
	r := random(71)
	for range 1500 {
		p := r.mir(1+r.below(9), 1+r.below(12), shape{far: 5, jumps: 4, ends: 1})
		keep := slices.Clone(p.L[:cap(p.L)])
		c := hold(t, p)
		out, _ := live.Out(p)
		spans, _ := live.Spans(p)
		clear(spans[:cap(spans)])
		for i := range out {
			clear(out[i][:cap(out[i])])
		}
		for i := range out {
			mine := out[i][:cap(out[i])]
			for reg := range mine {
				mine[reg] = true
			}
			for j := range out {
				if j != i && slices.Contains(out[j][:cap(out[j])], true) {
					t.Fatalf("of %s the rows %d and %d share memory", brief(p), i, j)
				}
			}
			clear(mine)
		}
		clear(out[:cap(out)])
		holdTo(t, p, c)
		if !slices.Equal(keep, p.L[:cap(p.L)]) {
			t.Fatalf("%s is %s now", brief(keep), brief(p.L[:cap(p.L)]))
		}
		// Another one in the same memory.
		for at := range p.L {
			p.L[at] = answer(0)
		}
		hold(t, p)
	}
}
