package decision_test

import (
	"math/bits"
	"reflect"
	"slices"
	"strconv"
	"strings"
	"testing"

	"ravelin/api"
	"ravelin/decision"
	"ravelin/policy"
	"ravelin/sem"
)

const head = "arch x86_64; foreign kill_process; default errno 1; "

// read is the policy of a text that is one.
func read(t *testing.T, text string) api.Policy {
	t.Helper()
	p, err, at := policy.Parse(text)
	if err != api.OK {
		t.Fatalf("%.300q is no policy: %d at %d", text, err, at)
	}
	return p
}

// holdBuild holds Build of a policy that is well formed against the chapter, and what it makes against the promises.
func holdBuild(t *testing.T, p api.Policy) []api.Node {
	t.Helper()
	want, made := buildByHand(p)
	l, err := decision.Build(p)
	if made > 4096 {
		if len(l) != 0 || err != 82 {
			t.Fatalf("Build of %.500v is %d nodes, %d, though %d are made", p, len(l), err, made)
		}
		return nil
	}
	if err != 0 || !slices.Equal(l, want) {
		t.Fatalf("Build of %.500v is %v, %d, not %v", p, l, err, want)
	}
	holdOnce(t, l)
	holdHalves(t, l, len(numbersByHand(p)))
	return l
}

// holdOnce: they are a decision; no two nodes are alike, none leads to the same one twice, all can be come to (P8.3); what a node has no use for is 0.
func holdOnce(t *testing.T, l []api.Node) {
	t.Helper()
	if err, at := decision.Check(l); err != 0 {
		t.Fatalf("%v are no decision: %d at %d", l, err, at)
	}
	met := map[api.Node]bool{}
	come := map[int]bool{0: true}
	for i, n := range l {
		if met[n] || !come[i] {
			t.Fatalf("%v has %v at %d again, or without a way to it", l, n, i)
		}
		met[n] = true
		if n.Leaf {
			if (n != api.Node{Leaf: true, Word: n.Word}) {
				t.Fatalf("a leaf is %v", n)
			}
			continue
		}
		if n.T == n.F || n.Word != 0 {
			t.Fatalf("a test is %v", n)
		}
		come[n.T], come[n.F] = true, true
	}
}

// holdHalves: on each way, a few tests alone look at Nr (P8.4).
func holdHalves(t *testing.T, l []api.Node, numbers int) {
	t.Helper()
	most := 1
	if numbers > 1 {
		most += bits.Len(uint(numbers - 1))
	}
	tests := make([]int, len(l))
	for i := len(l) - 1; i >= 0; i-- {
		if n := l[i]; !n.Leaf {
			tests[i] = max(tests[n.T], tests[n.F])
			if n.Off == 0 {
				tests[i]++
			}
		}
	}
	if tests[0] > most {
		t.Fatalf("of %d numbers, a way has %d tests of Nr", numbers, tests[0])
	}
}

// exampleNodes are those of the chapter's example.
func exampleNodes() []api.Node {
	return []api.Node{
		{Off: 4, Mask: full, Op: 1, K: 0xc000003e, T: 2, F: 1},
		{Leaf: true, Word: 0x80000000},
		{Off: 0, Mask: full, Op: 3, K: 5, T: 4, F: 3},
		{Off: 0, Mask: full, Op: 1, K: 0, T: 6, F: 10},
		{Off: 0, Mask: full, Op: 3, K: 7, T: 7, F: 5},
		{Off: 0, Mask: full, Op: 1, K: 5, T: 6, F: 10},
		{Leaf: true, Word: 0x7fff0000},
		{Off: 0, Mask: full, Op: 1, K: 7, T: 8, F: 10},
		{Off: 20, Mask: full, Op: 4, K: 0xff, T: 10, F: 9},
		{Leaf: true, Word: 0x7ffc0000},
		{Leaf: true, Word: 0x00050001},
	}
}

func TestBuildExample(t *testing.T) {
	p := read(t, head+"on 0, 5 do allow; on 7 when arg0 & 0xff00000000 == 0 do log;")
	l := holdBuild(t, p)
	if !slices.Equal(l, exampleNodes()) {
		t.Errorf("Build is %v", l)
	}
	if n, err := decision.Depth(l); n != 6 || err != 0 {
		t.Errorf("Depth is %d, %d", n, err)
	}
}

// What one expression becomes: written as lines, each a node behind those of the architecture and the number.
func TestBuildOfExpressions(t *testing.T) {
	for text, want := range map[string]string{
		"true":                              "log",
		"arg0 == 1":                         "20 eq 0 ? 3 : no; 16 eq 1 ? log : no",
		"arg0 != 1":                         "20 eq 0 ? 3 : log; 16 eq 1 ? no : log",
		"arg0 == 0":                         "20 eq 0 ? 3 : no; 16 eq 0 ? log : no",
		"not arg5 == 0x500000000":           "60 eq 5 ? 3 : log; 56 eq 0 ? no : log",
		"ip == 0x500000001":                 "12 eq 5 ? 3 : no; 8 eq 1 ? log : no",
		"ip & 0xffffffff == 1":              "8 eq 1 ? log : no",
		"ip & 0xf == 1":                     "8&f eq 1 ? log : no",
		"ip & 0xf == 0":                     "8 set f ? no : log",
		"ip & 0xf != 0":                     "8 set f ? log : no",
		"ip & 0xf00000000 == 0x100000000":   "12&f eq 1 ? log : no",
		"arg0 > 5":                          "20 gt 0 ? log : 3; 20 eq 0 ? 4 : no; 16 gt 5 ? log : no",
		"arg0 >= 5":                         "20 gt 0 ? log : 3; 20 eq 0 ? 4 : no; 16 ge 5 ? log : no",
		"arg0 < 5":                          "20 gt 0 ? no : 3; 20 eq 0 ? 4 : log; 16 ge 5 ? no : log",
		"arg0 <= 5":                         "20 gt 0 ? no : 3; 20 eq 0 ? 4 : log; 16 gt 5 ? no : log",
		"arg0 >= 0x500000000":               "20 gt 5 ? log : 3; 20 eq 5 ? log : no",
		"arg0 > 0x5ffffffff":                "20 gt 5 ? log : no",
		"arg0 <= 0x5ffffffff":               "20 gt 5 ? no : log",
		"arg0 & 0xff > 5":                   "16&ff gt 5 ? log : no",
		"arg0 & 0xff >= 0xff":               "16&ff ge ff ? log : no",
		"arg0 & 0xff00000000 > 0x500000000": "20&ff gt 5 ? log : no",
		"arg0 & 0xf0000000f > 0xf00000003":  "20&f eq f ? 3 : no; 16&f gt 3 ? log : no",
		"arg0 & 0x1ff > 5 or arg1 & 3 == 2 and arg2 & 1 == 1": "16&1ff gt 5 ? log : 3; 24&3 eq 2 ? 4 : no; 32&1 eq 1 ? log : no",
		"(arg0 & 1 == 1 or arg1 & 1 == 1) and arg2 & 1 == 1":  "16&1 eq 1 ? 4 : 3; 24&1 eq 1 ? 4 : no; 32&1 eq 1 ? log : no",
		"not (arg0 & 1 == 1 and not arg1 & 1 == 1)":           "16&1 eq 1 ? 3 : log; 24&1 eq 1 ? log : no",
	} {
		holdBuild(t, read(t, head+"on 9 when "+text+" do log;"))
		l := told(t, want)
		if got, err := decision.Build(read(t, head+"on 9 when "+text+" do log;")); err != 0 || !alike(got, 0, l, 0) {
			t.Errorf("Build of %q is %v, %d", text, got, err)
		}
	}
}

// told are the nodes that a text tells, behind those of the architecture and the number 9: place, operation, number, and where it leads to; with leaves behind them.
func told(t *testing.T, text string) []api.Node {
	t.Helper()
	lines := strings.Split(text, "; ")
	if text == "log" {
		lines = nil
	}
	n := len(lines) + 2
	ways := map[string]int{"log": n, "no": n + 1}
	for i := range lines {
		ways[strconv.Itoa(i+2)] = i + 2
	}
	l := []api.Node{{Off: 4, Mask: full, Op: 1, K: 0xc000003e, T: 1, F: n + 2}, {Mask: full, Op: 1, K: 9, T: 2, F: n + 1}}
	ops := map[string]api.NodeOp{"eq": 1, "gt": 2, "ge": 3, "set": 4}
	for _, line := range lines {
		parts := strings.Fields(line)
		off, mask, is := strings.Cut(parts[0], "&")
		if !is {
			mask = "ffffffff"
		}
		at, err := strconv.Atoi(off)
		m, err1 := strconv.ParseUint(mask, 16, 32)
		k, err2 := strconv.ParseUint(parts[2], 16, 32)
		if err != nil || err1 != nil || err2 != nil || ops[parts[1]] == 0 || ways[parts[4]] == 0 || ways[parts[6]] == 0 {
			t.Fatalf("%q tells no node", line)
		}
		l = append(l, api.Node{Off: at, Mask: uint32(m), Op: ops[parts[1]], K: uint32(k), T: ways[parts[4]], F: ways[parts[6]]})
	}
	return append(l, api.Node{Leaf: true, Word: 0x7ffc0000}, api.Node{Leaf: true, Word: 0x00050001}, api.Node{Leaf: true, Word: 0x80000000})
}

// alike: do two lists, from places on, say the same by the same tests, wherever those stand?
func alike(a []api.Node, i int, b []api.Node, j int) bool {
	if i >= len(a) || j >= len(b) {
		return false
	}
	x, y := a[i], b[j]
	ways := x.Leaf || alike(a, x.T, b, y.T) && alike(a, x.F, b, y.F)
	x.T, x.F, y.T, y.F = 0, 0, 0, 0
	return x == y && ways
}

// How many nodes some policies have.
func TestBuildSharesWhatIsAlike(t *testing.T) {
	for text, want := range map[string]int{
		"":                                         3,
		"on 1 do errno 1;":                         3,
		"on 1 when false do log;":                  3,
		"on 1 do kill_process;":                    4,
		"on 1 do log;":                             5,
		"on 1 when arg0 >= 0 do log;":              5,
		"on 1 when arg0 > 5 do log;":               8,
		"on 1 when arg0 > 5 do errno 1;":           3,
		"on 1 when arg0 == 5 do log; on 1 do log;": 5,
		"on 1, 2 when arg0 == 5 do log;":           9,
		"on 1 when arg0 == 5 do log; on 2 when arg0 == 5 do log;":                               9,
		"on 1 when arg0 == 5 do log; on 2 when not arg0 != 5 do log;":                           9,
		"on 1 when arg0 == 5 do log; on 2 when arg0 == 6 do log;":                               11,
		"on 1 when arg0 == 5 do log; on 2 when arg0 == 5 do allow;":                             12,
		"on 1 when ip == 5 and ip == 5 do log;":                                                 9,
		"on 1 do errno 1; on 1, 2 do log;":                                                      5,
		"on 1 when arg0 == 5 do errno 1; on 1 do log; on 2 when arg0 == 5 do log; on 2 do log;": 9,
	} {
		if l := holdBuild(t, read(t, head+text)); len(l) != want {
			t.Errorf("Build of %q has %d nodes, not %d: %v", text, len(l), want, l)
		}
	}
	same := read(t, "arch riscv64; foreign errno 1; default errno 1; on 7 when ip > 5 do errno 1;")
	if l := holdBuild(t, same); !slices.Equal(l, []api.Node{{Leaf: true, Word: 0x00050001}}) {
		t.Errorf("Build of what says the same always is %v", l)
	}
}

// Names have the numbers of the policy's architecture; several numbers are told apart half by half, and without a sign.
func TestBuildOfNumbers(t *testing.T) {
	for _, text := range []string{
		"arch x86_64; foreign log; default allow; on read, openat, 2 do trap 1;",
		"arch riscv64; foreign log; default allow; on read, openat, 2 do trap 1; on 63 do trap 2;",
		"arch aarch64; foreign log; default allow; on read, 56, 2 do trap 1; on openat, 63 do trap 2;",
		head + "on 0, 4294967295, 2147483648, 2147483647, 1 do log;",
		head + "on 4294967295 do log; on 0 do allow;",
		head + "on 3, 1, 2 do log; on 2, 5, 4 do allow; on 5, 1, 9 do errno 1;",
		head + "on 3, 1, 2 do errno 1; on 3, 2, 1, 0 do allow;",
	} {
		p := read(t, text)
		l := holdBuild(t, p)
		arch, _ := sem.Arch(p.Arch)
		for _, nr := range []uint32{0, 1, 2, 3, 4, 5, 6, 9, 10, 56, 63, 257, 0x7fffffff, 0x80000000, 0xfffffffe, full} {
			d := api.Data{Nr: nr, Arch: arch}
			if w := holdRun(t, l, d); w != sem.Eval(p, d) {
				t.Errorf("Run of %q over %v is %#x, not %#x", text, d, w, sem.Eval(p, d))
			}
		}
	}
	for n := range 70 {
		p := read(t, head)
		for i := range n {
			p.Rules = append(p.Rules, api.Rule{Calls: []api.Call{{Nr: uint64(i * i)}}, When: with(1), Do: api.Verdict{Kind: 3, Data: uint64(i % 3)}})
		}
		holdBuild(t, p)
		slices.Reverse(p.Rules)
		holdBuild(t, p)
	}
}

// Of a policy that is not well formed there is no decision, whatever is wrong with it.
func TestBuildOfWhatIsNotWellFormed(t *testing.T) {
	for i, text := range []string{
		"arch arm; foreign log; default log;",
		"arch x86_64; foreign errno 4096; default log;",
		"arch x86_64; foreign log; default trap 65536;",
		head + "on bogus do log;",
		head + "on 1 do log; on 1, 1 do log;",
		head + "on 0, read do log;",
		head + "on 4294967296 do log;",
		head + "on 1 when arg0 & 0 == 0 do log;",
		head + "on 1 when true or arg0 & 1 == 2 do log;",
		head + "on 1 do errno 4096;",
		head + "on 1 do log; on 1 do errno 4096;",
	} {
		if l, err := decision.Build(read(t, text)); len(l) != 0 || err != 81 {
			t.Errorf("%d: Build of %q is %v, %d", i, text, l, err)
		}
	}
	many := read(t, head+"on 1 do log;")
	many.Rules = slices.Repeat(many.Rules, 512)
	holdBuild(t, many)
	many.Rules = append(many.Rules, many.Rules[0])
	deep := read(t, head+"on 1 do log;")
	deep.Rules[0].When = nested(200, test(0, 1, 1, 1))
	holdBuild(t, deep)
	deep.Rules[0].When = nested(201, test(0, 1, 1, 1))
	for _, p := range []api.Policy{{}, many, deep, {Arch: "x86_64", Foreign: api.Verdict{Kind: 9}, Default: api.Verdict{Kind: 1}}, {Arch: "x86_64", Foreign: api.Verdict{Kind: 1}, Default: api.Verdict{Kind: 1}, Rules: make([]api.Rule, 1)}} {
		if l, err := decision.Build(p); len(l) != 0 || err != 81 {
			t.Errorf("Build of %.300v is %v, %d", p, l, err)
		}
	}
}

// some is an expression that makes as many nodes as it has tests.
func some(op api.ExprOp, n int) api.Expr {
	e := with(op)
	for i := range n {
		e.Args = append(e.Args, test(0, full, 1, uint64(i+1)))
	}
	return e
}

// As many nodes as there may be, and one more: those count that can't be come to, and those that are alike count once.
func TestBuildOfHowMany(t *testing.T) {
	for i, c := range []struct {
		rules string
		turn  func(p *api.Policy, n int)
		most  int // so great n may be
		left  int // so many nodes are left of the most, or 0: all of them
	}{
		{"on 1 do log;", func(p *api.Policy, n int) { p.Rules[0].When = some(5, n) }, 4096 - 5, 0},
		{"on 1 do log;", func(p *api.Policy, n int) { p.Rules[0].When = some(4, n) }, 4096 - 5, 0},
		{"on 1 do allow; on 1 do log;", func(p *api.Policy, n int) { p.Rules[1].When = some(5, n) }, 4096 - 6, 5},
		{"on 1 do errno 1; on 1 do log;", func(p *api.Policy, n int) { p.Rules[1].When = some(5, n) }, 4096 - 4, 3},
		{"on 1 do log; on 2 do log;", func(p *api.Policy, n int) { p.Rules[0].When, p.Rules[1].When = some(5, n), some(5, n) }, 4096 - 7, 0},
		{"on 1 do log;", func(p *api.Policy, n int) {
			for i := range n {
				p.Rules[0].Calls = append(p.Rules[0].Calls, api.Call{Nr: uint64(i + 2)})
			}
		}, 2045, 4095},
		{"on 1 do log; on 1 do trap 3;", func(p *api.Policy, n int) {
			for i := range n {
				p.Rules[0].Calls = append(p.Rules[0].Calls, api.Call{Nr: uint64(i + 2)})
			}
		}, 2045, 4095},
		{"on 1 do log; on 7 when false do trap 1; on 7 when false do trap 2;", func(p *api.Policy, n int) {
			for i := range n {
				p.Rules[0].Calls = append(p.Rules[0].Calls, api.Call{Nr: uint64(i + 20)})
			}
		}, 2044, 4093},
	} {
		for n := c.most - 2; n < c.most+3; n++ {
			p := read(t, head+c.rules)
			c.turn(&p, n)
			l, err := decision.Build(p)
			want := api.OK
			if n > c.most {
				want = 82
			}
			if err != want || err != 0 && len(l) != 0 {
				t.Errorf("%d: Build of %d is %d nodes, %d, not %d", i, n, len(l), err, want)
			}
			left := c.left
			if left == 0 {
				left = 4096
			}
			if n == c.most && len(l) != left {
				t.Errorf("%d: Build of %d is %d nodes, not %d", i, n, len(l), left)
			}
			if n == c.most || n == c.most+1 {
				holdBuild(t, p)
			}
		}
	}
}

// Policies that are far too large are refused soon; much that comes to nothing is not too large.
func TestBuildOfGreatOnes(t *testing.T) {
	p := read(t, head+"on 1 do log;")
	p.Rules[0].When = some(5, 1<<17)
	p.Rules = slices.Repeat(p.Rules, 20)
	if l, err := decision.Build(p); len(l) != 0 || err != 82 {
		t.Errorf("Build of great expressions is %d nodes, %d", len(l), err)
	}
	p = read(t, head+"on 1 do log;")
	for n := range uint64(1 << 17) {
		p.Rules[0].Calls = append(p.Rules[0].Calls, api.Call{Nr: n + 2})
	}
	if l, err := decision.Build(p); len(l) != 0 || err != 82 {
		t.Errorf("Build of many calls is %d nodes, %d", len(l), err)
	}
	p.Rules[0].When = test(6, 1, 5, 1)
	p.Rules = append(p.Rules, read(t, head+"on 1 do allow;").Rules...)
	if l, err := decision.Build(p); len(l) != 5 || err != 0 {
		t.Errorf("Build of many calls that come to nothing is %d nodes, %d", len(l), err)
	}
	p = read(t, head+"on 1 when true do log;")
	p.Rules[0].When = with(5, with(4, some(5, 1<<17), with(2)), with(3, with(1)), test(0, 1, 1, 1))
	if l, err := decision.Build(p); len(l) != 6 || err != 0 {
		t.Errorf("Build of a great expression that comes to little is %d nodes, %d", len(l), err)
	}
	p = read(t, head+"on 1 do log;")
	p.Rules[0].Calls = nil
	for n := range uint64(2000) {
		p.Rules[0].Calls = append(p.Rules[0].Calls, api.Call{Nr: 3 * n})
	}
	p.Rules = slices.Repeat(p.Rules, 512)
	l, err := decision.Build(p)
	if len(l) != 4003 || err != 0 {
		t.Fatalf("Build of many rules with many calls is %d nodes, %d", len(l), err)
	}
	holdOnce(t, l)
	holdHalves(t, l, 2000)
}

// Policies that follow no shape, and data near what they ask for: it says the same (P8.2). What is handed in is not changed, and an answer is the same again, in memory of its own.
func TestBuildOfAllShapes(t *testing.T) {
	r := random(53)
	seen := map[string]int{}
	for i := range 4000 {
		p := r.policy(r.below(6), 1+r.below(6), r.below(4))
		was := copiedPolicy(p)
		l := holdBuild(t, p)
		if len(l) > 12 {
			seen["great"]++
		}
		for range 16 {
			d := r.data(p)
			want := sem.Eval(p, d)
			if w := holdRun(t, l, d); w != want {
				t.Fatalf("%d: Run of what Build makes of %v is %#x over %v, not %#x", i, p, w, d, want)
			}
			if n := l[0]; !n.Leaf && d.Arch == n.K {
				seen["own"]++
			} else {
				seen["foreign"]++
			}
		}
		if !reflect.DeepEqual(p, was) {
			t.Fatalf("%v was %v", p, was)
		}
		clear(l[:cap(l)])
		holdBuild(t, p)
	}
	if seen["great"] < 1000 || seen["own"] < 10000 || seen["foreign"] < 5000 {
		t.Errorf("what was seen: %v", seen)
	}
}

// Policies of many rules and numbers.
func TestBuildOfManyRules(t *testing.T) {
	r := random(59)
	for range 60 {
		p := r.policy(10+r.below(30), 1+r.below(30), r.below(3))
		l := holdBuild(t, p)
		for range 200 {
			d := r.data(p)
			if w := holdRun(t, l, d); w != sem.Eval(p, d) {
				t.Fatalf("Run of what Build makes of %v is %#x over %v", p, w, d)
			}
		}
	}
}

// All policies of two rules for one number or the other, with little in them.
func TestBuildOfAllSmallOnes(t *testing.T) {
	one, other := test(0, full, 1, 1), test(6, 6, 6, 4)
	whens := []api.Expr{with(1), with(2), one, other, with(3, one), with(4, one, other), with(5, one, other), with(5, with(3, one), other)}
	calls := [][]api.Call{{{}}, {{Nr: 1}}, {{Nr: 1}, {}}}
	kinds := []api.ActionKind{1, 7, 8}
	for set := range len(whens) * len(whens) * len(calls) * len(calls) * len(kinds) * len(kinds) {
		pick := func(n int) int {
			defer func() { set /= n }()
			return set % n
		}
		p := api.Policy{Arch: "riscv64", Foreign: api.Verdict{Kind: 1}, Default: api.Verdict{Kind: 8}}
		for range 2 {
			p.Rules = append(p.Rules, api.Rule{Calls: calls[pick(len(calls))], When: whens[pick(len(whens))], Do: api.Verdict{Kind: kinds[pick(len(kinds))]}})
		}
		l := holdBuild(t, p)
		for nr := range uint32(3) {
			for _, v := range []uint64{0, 1, 4, 6, 1<<32 + 1, 1 << 32} {
				d := api.Data{Nr: nr, Arch: 0xc00000f3, IP: v, Args: [6]uint64{v}}
				if w := holdRun(t, l, d); w != sem.Eval(p, d) {
					t.Fatalf("Run of what Build makes of %v is %#x over %v", p, w, d)
				}
			}
		}
	}
}
