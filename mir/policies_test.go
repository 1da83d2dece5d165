package mir_test

import (
	"strconv"
	"strings"
	"testing"

	"ravelin/api"
	"ravelin/lower"
	"ravelin/mir"
	"ravelin/opt"
	"ravelin/policy"
	"ravelin/secdata"
	"ravelin/sem"
)

// policyText has so many rules, some with a test, so that ways from the first ones go far.
func policyText(rules int) string {
	var b strings.Builder
	b.WriteString("arch x86_64; foreign kill_process; default errno 1;")
	for i := range rules {
		b.WriteString(" on " + strconv.Itoa(1000+i))
		if i%3 == 0 {
			b.WriteString(" when arg1 & 0xff == " + strconv.Itoa(i%256) + " or arg2 > " + strconv.Itoa(i))
		}
		b.WriteString(" do errno " + strconv.Itoa(2+i) + ";")
	}
	return b.String()
}

// What is made of policies' programs, optimized or not, says what the policies say.
func TestFromOfPolicies(t *testing.T) {
	for _, rules := range []int{0, 1, 7, 60, 130} {
		p, err, _ := policy.Parse(policyText(rules))
		if err != 0 {
			t.Fatalf("the text is refused: %d", err)
		}
		q, err := lower.Lower(p)
		if err != 0 {
			t.Fatalf("there is no program of %d rules: %d", rules, err)
		}
		shorter, _ := opt.Optimize(q)
		for _, nr := range []uint32{0, 999, 1000, 1001, 1003, 1030, 1059, 1129, 1130} {
			for _, arg := range []uint64{0, 3, 100, 1 << 40} {
				d := api.Data{Nr: nr, Arch: 0xc000003e, Args: [6]uint64{0, arg, arg}}
				if nr == 999 {
					d.Arch = 1
				}
				for _, program := range [][]api.Insn{q, shorter} {
					m, err := mir.From(program)
					if got := run(m, secdata.Bytes(d)); err != 0 || got.err != 0 || got.answer != sem.Eval(p, d) {
						t.Fatalf("of %d rules over %+v: %d, %+v, not %#x", rules, d, err, got, sem.Eval(p, d))
					}
				}
			}
		}
	}
}
