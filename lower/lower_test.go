package lower_test

import (
	"reflect"
	"slices"
	"strconv"
	"strings"
	"testing"

	"ravelin/api"
	"ravelin/cbpf"
	"ravelin/decision"
	"ravelin/lower"
	"ravelin/policy"
	"ravelin/secdata"
	"ravelin/sem"
)

const head = "arch x86_64; foreign kill_process; default errno 1; "

// read is the policy of a text that is one.
func read(t *testing.T, text string) api.Policy {
	t.Helper()
	p, err, at := policy.Parse(text)
	if err != api.OK {
		t.Fatalf("%.300q is no policy: %d at %d", text, err, at)
	}
	return p
}

// holdLower: Lower of a policy is Emit of what Build makes of it, and so is the error (W3); the policy is not changed.
func holdLower(t *testing.T, text string) ([]api.Insn, api.Errno) {
	t.Helper()
	p := read(t, text)
	q, err := lower.Lower(p)
	l, want := decision.Build(p)
	var program []api.Insn
	if want == 0 {
		program = holdEmit(t, l)
		if program == nil {
			want = 91
		}
	}
	if err != want || !slices.Equal(q, program) {
		t.Fatalf("Lower of %.300q is %.500v, %d, not %.500v, %d", text, q, err, program, want)
	}
	if !reflect.DeepEqual(p, read(t, text)) {
		t.Fatalf("%.300q is another policy now", text)
	}
	return q, err
}

// holdEval: a program answers the policy's Eval (P9.2).
func holdEval(t *testing.T, p api.Policy, q []api.Insn, d api.Data) {
	t.Helper()
	if w, _, err, at := cbpf.Run(q, secdata.Bytes(d)); w != sem.Eval(p, d) || err != 0 {
		t.Fatalf("the program of %.500v answers %#x, %d at %d, over %v, not %#x", p, w, err, at, d, sem.Eval(p, d))
	}
}

// The programs of some policies, one instruction behind the other.
func TestLowerExamples(t *testing.T) {
	for text, want := range map[string][]api.Insn{
		"arch riscv64; foreign errno 1; default errno 1;": {{Code: 6, K: 0x00050001}},
		"arch riscv64; foreign log; default allow; on read do errno 9;": {
			{Code: 0x20, K: 4}, {Code: 0x15, Jt: 1, K: 0xc00000f3},
			{Code: 6, K: 0x7ffc0000},
			{Code: 0x20}, {Code: 0x15, Jt: 1, K: 63},
			{Code: 6, K: 0x7fff0000},
			{Code: 6, K: 0x00050009},
		},
		head + "on 0, 5 do allow; on 7 when arg0 & 0xff00000000 == 0 do log;": {
			{Code: 0x20, K: 4}, {Code: 0x15, Jt: 1, K: 0xc000003e},
			{Code: 6, K: 0x80000000},
			{Code: 0x20}, {Code: 0x35, Jt: 2, K: 5},
			{Code: 0x20}, {Code: 0x15, Jt: 4, Jf: 10},
			{Code: 0x20}, {Code: 0x35, Jt: 3, K: 7},
			{Code: 0x20}, {Code: 0x15, Jf: 6, K: 5},
			{Code: 6, K: 0x7fff0000},
			{Code: 0x20}, {Code: 0x15, Jf: 3, K: 7},
			{Code: 0x20, K: 20}, {Code: 0x45, Jt: 1, K: 0xff},
			{Code: 6, K: 0x7ffc0000},
			{Code: 6, K: 0x00050001},
		},
		head + "on 9 when arg5 & 0xf0 > 0x20 do allow;": {
			{Code: 0x20, K: 4}, {Code: 0x15, Jt: 1, K: 0xc000003e},
			{Code: 6, K: 0x80000000},
			{Code: 0x20}, {Code: 0x15, Jf: 3, K: 9},
			{Code: 0x20, K: 56}, {Code: 0x54, K: 0xf0}, {Code: 0x25, Jt: 1, K: 0x20},
			{Code: 6, K: 0x00050001},
			{Code: 6, K: 0x7fff0000},
		},
	} {
		if q, err := holdLower(t, text); err != 0 || !slices.Equal(q, want) {
			t.Errorf("Lower of %q is %v, %d, not %v", text, q, err, want)
		}
	}
}

// Of a policy that is not well formed there is no program.
func TestLowerOfWhatIsNotWellFormed(t *testing.T) {
	for _, text := range []string{
		"arch arm; foreign log; default log;",
		"arch x86_64; foreign errno 4096; default log;",
		head + "on bogus do log;",
		head + "on 0, read do log;",
		head + "on 4294967296 do log;",
		head + "on 1 when arg0 & 1 == 2 do log;",
		head + "on 1 do trap 65536;",
	} {
		if q, err := holdLower(t, text); len(q) != 0 || err != 81 {
			t.Errorf("Lower of %q is %v, %d", text, q, err)
		}
	}
	p := read(t, head+"on 1 do log;")
	p.Rules = slices.Repeat(p.Rules, 513)
	for _, p := range []api.Policy{{}, p} {
		if q, err := lower.Lower(p); len(q) != 0 || err != 81 {
			t.Errorf("Lower of %.300v is %v, %d", p, q, err)
		}
	}
}

// several is a policy of a rule that has so many tests of two instructions, and of three, and of other rules.
func several(two, three int, rules string) string {
	var tests []string
	for i := range two {
		tests = append(tests, "ip & 0xffffffff == "+strconv.Itoa(i+1))
	}
	for i := range three {
		tests = append(tests, "ip & 0xffff == "+strconv.Itoa(i+1))
	}
	return head + "on 1 when " + strings.Join(tests, " or ") + " do log;" + rules
}

// As long programs as there may be, and longer ones; a policy of which too many nodes are made has the error of that.
func TestLowerOfHowMany(t *testing.T) {
	seen := map[int]int{}
	for two := 1400; two < 1408; two++ {
		for three := range 3 {
			for _, rules := range []string{"", "on 1 do trap 1;", "on 2 do trap 1;"} {
				text := several(two, three, rules)
				l, _ := decision.Build(read(t, text))
				q, err := holdLower(t, text)
				n, _ := lower.Size(l)
				seen[n]++
				if n > 4096 && err != 91 || n <= 4096 && (err != 0 || len(q) != n) {
					t.Errorf("Lower of %d and %d tests is %d instructions, %d, not %d", two, three, len(q), err, n)
				}
			}
		}
	}
	for n := 4093; n < 4101; n++ {
		if seen[n] == 0 {
			t.Errorf("no policy of these becomes %d instructions: %v", n, seen)
		}
	}
	p := read(t, several(2000, 1, ""))
	if q, err := lower.Lower(p); len(q) != 0 || err != 91 {
		t.Errorf("Lower of a policy that is too large is %d instructions, %d", len(q), err)
	}
	tests := &p.Rules[0].When.Args
	for len(*tests) < 5000 {
		*tests = append(*tests, api.Expr{Op: 6, Field: 1, Mask: full, Rel: 1, Value: uint64(len(*tests))})
	}
	if q, err := lower.Lower(p); len(q) != 0 || err != 82 {
		t.Errorf("Lower of a policy of too many nodes is %d instructions, %d", len(q), err)
	}
}

// Of many numbers each is found, by long ways and others.
func TestLowerOfManyNumbers(t *testing.T) {
	for _, n := range []int{1, 2, 50, 100, 200, 300} {
		text := head
		for i := range n {
			text += "on " + strconv.Itoa(3*i) + " when arg1 & 7 > " + strconv.Itoa(i%4) + " do trap " + strconv.Itoa(i) + ";"
		}
		p := read(t, text)
		q, err := holdLower(t, text)
		if err != 0 || n > 100 && count(q, 5) < 10 {
			t.Fatalf("Lower of %d numbers is %d instructions, %d of them long ways, %d", n, len(q), count(q, 5), err)
		}
		for nr := range uint32(3*n + 2) {
			for arg := range uint64(4) {
				holdEval(t, p, q, api.Data{Nr: nr, Arch: 0xc000003e, Args: [6]uint64{1: arg}})
			}
			holdEval(t, p, q, api.Data{Nr: nr})
		}
	}
}

// expr is the text of an expression; of few fields and numbers, so that it says now this, now that.
func (r *random) expr(depth int) string {
	switch r.below(4) + min(depth, 1) {
	case 2:
		return "not (" + r.expr(depth-1) + ")"
	case 3:
		return "(" + r.expr(depth-1) + " and " + r.expr(depth-1) + " and " + r.expr(depth-1) + ")"
	case 4:
		return "(" + r.expr(depth-1) + " or " + r.expr(depth-1) + ")"
	}
	rel := []string{"==", "!=", "<", "<=", ">", ">="}[r.below(6)]
	mask := []uint64{1, 3, 3 << 32, 3<<32 + 3, 1<<64 - 1}[r.below(5)]
	value := (uint64(r.below(4))<<32 | uint64(r.below(4))) & mask
	return []string{"arg0", "arg0", "arg5", "ip"}[r.below(4)] + " & " + strconv.FormatUint(mask, 10) + " " + rel + " " + strconv.FormatUint(value, 10)
}

// policy is the text of one that is well formed.
func (r *random) policy(rules, depth int) string {
	text := "arch " + []string{"x86_64", "riscv64", "aarch64"}[r.below(3)] + "; foreign log; default errno 1;"
	for range rules {
		first := r.below(8)
		text += "on " + strconv.Itoa(first) + ", " + strconv.Itoa(first+1+r.below(5)) + " when " + r.expr(depth) + " do " + []string{"allow", "errno 1", "errno 2", "trap 3"}[r.below(4)] + ";"
	}
	return text
}

// Policies that follow no shape, small and great, over data that they ask for: P9.2.
func TestLowerOfAllShapes(t *testing.T) {
	r := random(61)
	seen := map[string]int{}
	for i := range 1500 {
		text := r.policy(r.below(6), r.below(4))
		if i%50 == 0 {
			text = r.policy(30+r.below(40), 2)
		}
		p := read(t, text)
		q, err := holdLower(t, text)
		if err != 0 {
			seen["refused"]++
			continue
		}
		seen["long ways"] += count(q, 5)
		arch, _ := sem.Arch(p.Arch)
		for range 16 {
			d := r.data()
			d.Nr, d.Arch = uint32(r.below(14)), arch
			if r.below(8) == 0 {
				d.Arch = r.word()
			}
			holdEval(t, p, q, d)
			if sem.Eval(p, d) != 0x00050001 {
				seen["not the default"]++
			}
		}
	}
	if seen["long ways"] < 100 || seen["not the default"] < 5000 || seen["refused"] > 15 {
		t.Errorf("what came: %v", seen)
	}
}
