package alloc_test

import (
	"slices"
	"strconv"
	"strings"
	"testing"

	"ravelin/api"
	"ravelin/lower"
	"ravelin/mir"
	"ravelin/opt"
	"ravelin/policy"
	"ravelin/secdata"
	"ravelin/sem"
)

func TestRunExamples(t *testing.T) {
	p := example()
	data := secdata.Bytes(api.Data{Nr: 5})
	for _, h := range [][]api.Home{
		homes(register(0), register(1)), homes(register(31), slot(63)), homes(slot(1), slot(0)),
	} {
		if got := holdRun(t, p, h, data); got != (outcome{answer: 12, steps: 4}) {
			t.Errorf("in %v it is %+v", h, got)
		}
	}
	// What the machine's homes have at first is 0.
	zeros := api.Mir{Regs: 2, L: []api.Ir{three(api.MirOr, 0, 0, 1), answer(0)}}
	if got := holdRun(t, zeros, homes(register(4), slot(4)), data); got != (outcome{steps: 2}) {
		t.Errorf("of nothing it is %+v", got)
	}
	// Two that share a home by turns.
	turns := api.Mir{Regs: 3, L: []api.Ir{load(0, 0), {Op: api.MirNeg, D: 1, A: 0}, {Op: api.MirNeg, D: 2, A: 1}, answer(2)}}
	if got := holdRun(t, turns, homes(slot(3), slot(3), slot(3)), data); got != (outcome{answer: 5, steps: 4}) {
		t.Errorf("in one home it is %+v", got)
	}
	by0 := api.Mir{Regs: 3, L: []api.Ir{konst(0, 7), konst(1, 0), three(api.MirDiv, 2, 0, 1), answer(2)}}
	if got := holdRun(t, by0, homes(slot(3), register(3), slot(3)), data); got != (outcome{err: api.ErrDivide, steps: 2, at: 2}) {
		t.Errorf("a division by 0 is %+v", got)
	}
}

// Fields that a row does not name are no registers, whatever stands there.
func TestFieldsThatDoNotCount(t *testing.T) {
	p := api.Mir{Regs: 1, L: []api.Ir{{Op: api.MirConst, A: -1, B: 1 << 40, K: 3, T: -1, F: -1}, {Op: api.MirJump, D: 99, A: 99, B: -99, T: 2}, {Op: api.MirReturn, D: -5, B: 64}}}
	for _, home := range homes(register(0), register(31), slot(0), slot(63)) {
		if got := holdRun(t, p, homes(home), make([]byte, 64)); got != (outcome{answer: 3, steps: 3}) {
			t.Errorf("in %v it is %+v", home, got)
		}
	}
}

// What is wrong ends it ahead of the first step: homes that don't hold first, then data that have not 64 bytes.
func TestRunRefused(t *testing.T) {
	p := example()
	ok := homes(register(0), register(1))
	for _, n := range []int{0, 1, 63, 64, 65, 128, 1000} {
		data := make([]byte, n)
		want := outcome{err: api.ErrSecdataLen}
		if n == 64 {
			want = outcome{answer: 7, steps: 4}
		}
		if got := holdRun(t, p, ok, data); got != want {
			t.Errorf("over %d bytes it is %+v", n, got)
		}
		for _, h := range [][]api.Home{
			nil, ok[:1], slices.Concat(ok, ok), homes(register(0), register(0)), homes(slot(7), slot(7)),
			homes(register(0), register(32)), homes(register(-1), register(0)), homes(slot(64), slot(0)), homes(slot(0), slot(-1)),
		} {
			if got := runIn(p, h, data); got != (outcome{err: api.ErrArg}) {
				t.Errorf("over %d bytes in %v it is %+v", n, h, got)
			}
		}
	}
}

// P14.1 of all small programs: in all homes of a few that hold.
func TestRunOfAllSmallPrograms(t *testing.T) {
	kinds := homes(register(31), slot(0), register(1))
	data := secdata.Bytes(api.Data{Nr: 0xfffffffe})
	seen := map[bool]int{}
	for n := 1; n < 5; n++ {
		allMirs(n, func(p api.Mir) {
			c := newAccount(p)
			for i := range 27 {
				h := homes(kinds[i%3], kinds[i/3%3], kinds[i/9])
				err, _ := c.check(h, 32)
				seen[err == 0]++
				if err == 0 {
					holdRun(t, p, h, data)
				} else if got := runIn(p, h, data); got != (outcome{err: 1}) {
					t.Fatalf("of %s in %v it is %+v", brief(p), h, got)
				}
			}
		})
	}
	if seen[true] < 10000 || seen[false] < 10000 {
		t.Errorf("there are %v", seen)
	}
}

// P14.1 of programs that follow no shape: in homes that Alloc tells, and in others that hold.
func TestRunOfAllShapes(t *testing.T) {
	r := random(11)
	seen := map[api.Errno]int{}
	shared := 0
	for range 12000 {
		n := 1 + r.below(40)
		p := r.mir([]int{1, 2, 3, 6, 17, 64}[r.below(6)], n, shape{far: 1 + r.below(6), jumps: r.below(8), ends: r.below(2)})
		if r.below(2) == 0 {
			p = r.short(p.Regs, n, 1+r.below(4))
		}
		c := newAccount(p)
		for _, h := range [][]api.Home{holdAlloc(t, p, c, r.below(33)), r.apart(c), r.apart(c)} {
			got := holdRun(t, p, h, r.data())
			seen[got.err]++
			used := slices.Clone(h)
			slices.SortFunc(used, func(a, b api.Home) int { return strings.Compare(brief(a), brief(b)) })
			if len(slices.Compact(used)) < p.Regs {
				shared++
			}
		}
	}
	if seen[0] < 5000 || seen[8] < 1000 || shared < 5000 {
		t.Errorf("there are %v, %d with shared homes", seen, shared)
	}
}

// policyText has so many rules with a test.
func policyText(rules int) string {
	var b strings.Builder
	b.WriteString("arch x86_64; foreign kill_process; default errno 1;")
	for i := range rules {
		b.WriteString(" on " + strconv.Itoa(1000+i) + " when arg1 & 0xff == " + strconv.Itoa(i%256) + " or arg2 > 7 do errno " + strconv.Itoa(2+i) + ";")
	}
	return b.String()
}

// Policies' programs, optimized or not, in their homes say what the policies say.
func TestRunOfPolicies(t *testing.T) {
	r := random(53)
	for _, rules := range []int{0, 1, 9, 150} {
		p, err, _ := policy.Parse(policyText(rules))
		if err != 0 {
			t.Fatalf("the text is refused: %d", err)
		}
		q, err := lower.Lower(p)
		if err != 0 {
			t.Fatalf("there is no program of %d rules: %d", rules, err)
		}
		shorter, _ := opt.Optimize(q)
		for _, program := range [][]api.Insn{q, shorter} {
			m, err := mir.From(program)
			if err != 0 {
				t.Fatalf("From is refused: %d", err)
			}
			c := newAccount(m)
			for _, regs := range []int{0, 1, 2, 3, 7, 12, 32} {
				h := holdAlloc(t, m, c, regs)
				for range 20 {
					d := api.Data{Nr: 1000 + uint32(r.below(rules+2)), Arch: 0xc000003e, Args: [6]uint64{0, uint64(r.below(rules + 2)), uint64(r.below(9))}}
					if got := holdRun(t, m, h, secdata.Bytes(d)); got.err != 0 || got.answer != sem.Eval(p, d) {
						t.Fatalf("of %d rules over %+v in %s: %+v, not %#x", rules, d, brief(h), got, sem.Eval(p, d))
					}
				}
			}
		}
	}
}
