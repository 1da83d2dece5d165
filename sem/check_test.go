package sem_test

import (
	"math"
	"reflect"
	"slices"
	"strings"
	"testing"

	"ravelin/api"
	"ravelin/policy"
	"ravelin/sem"
)

const head = "arch x86_64; foreign kill_process; default errno 1; "

// read is the policy of a text that is one.
func read(t *testing.T, text string) api.Policy {
	t.Helper()
	p, err, at := policy.Parse(text)
	if err != api.OK {
		t.Fatalf("%.300q is no policy: %d at %d", text, err, at)
	}
	return p
}

// holdCheck holds Check of a policy against the chapter; Eval of one that is not well formed is 0.
func holdCheck(t *testing.T, p api.Policy) api.Errno {
	t.Helper()
	want, wantAt := checkByHand(p)
	if err, at := sem.Check(p); err != want || at != wantAt {
		t.Fatalf("Check of %.500v is %d, %d, not %d, %d", p, err, at, want, wantAt)
	}
	if want != 0 {
		for _, arch := range []uint32{0, 0xc000003e, 0xc00000f3, 0xc00000b7} {
			if w := sem.Eval(p, api.Data{Arch: arch}); w != 0 {
				t.Fatalf("Eval of %.500v, which is not well formed, is %#x", p, w)
			}
		}
	}
	return want
}

func TestCheckExamples(t *testing.T) {
	for _, c := range []struct {
		text string
		want api.Errno
		at   int
	}{
		{"arch x86_64; foreign allow; default allow;", 0, 0},
		{"arch arm; foreign errno 4096; default log;", 71, -1},
		{"arch arm; foreign log; default log; on bogus do log;", 71, -1},
		{"arch riscv64; foreign errno 4096; default log;", 72, -1},
		{"arch riscv64; foreign log; default errno 4096; on bogus do log;", 72, -1},
		{"arch aarch64; foreign log; default trap 65536;", 72, -1},
		{"arch aarch64; foreign trace 65536; default log;", 72, -1},
		{head + "on read, write, 231 do allow; on openat when arg2 & 0x3 == 0 and not (arg1 > 5 or ip < 4096) do log;", 0, 0},
		{head + "on bogus do log;", 73, 0},
		{head + "on 0, read do log;", 74, 0},
		{head + "on read, 0 do log;", 74, 0},
		{head + "on read, read do log;", 74, 0},
		{head + "on 7, 8, 9, 7 do log;", 74, 0},
		{head + "on 4294967295 do log;", 0, 0},
		{head + "on 4294967296 do log;", 73, 0},
		{head + "on 0, 4294967296 do log;", 73, 0},
		{head + "on 1 do log; on 1 do log; on 1, 1 do log;", 74, 2},
		{head + "on 1, 1, bogus do log;", 74, 0},
		{head + "on 1, bogus, 1 do log;", 73, 0},
		{head + "on 1 when arg0 & 3 == 4 do log;", 75, 0},
		{head + "on 1 when arg0 & 0 == 0 do log;", 75, 0},
		{head + "on 1 do errno 4095;", 0, 0},
		{head + "on 1 do errno 4096;", 72, 0},
		{head + "on 1, bogus when arg0 & 0 == 0 do errno 4096;", 73, 0},
		{head + "on 1 when arg0 & 0 == 0 do errno 4096;", 75, 0},
		{head + "on 1 do log; on 2 do errno 4096; on bogus do log;", 72, 1},
		{"arch riscv64; foreign log; default log; on fork do log;", 73, 0},
		{"arch riscv64; foreign log; default log; on 57, 63 do log; on read, 57, close do log;", 74, 1},
		{"arch x86_64; foreign log; default log; on 63, read do log;", 0, 0},
	} {
		if err, at := sem.Check(read(t, c.text)); err != c.want || at != c.at {
			t.Errorf("Check of %q is %d, %d, not %d, %d", c.text, err, at, c.want, c.at)
		}
		holdCheck(t, read(t, c.text))
	}
}

// Policies that no text says.
func TestCheckOfOtherPolicies(t *testing.T) {
	rule := api.Rule{Calls: []api.Call{{Name: "read"}}, When: with(1), Do: api.Verdict{Kind: 8}}
	for i, c := range []struct {
		turn func(p *api.Policy)
		want api.Errno
		at   int
	}{
		{func(p *api.Policy) {}, 0, 0},
		{func(p *api.Policy) { *p = api.Policy{} }, 71, -1},
		{func(p *api.Policy) { p.Arch = "" }, 71, -1},
		{func(p *api.Policy) { p.Foreign = api.Verdict{} }, 72, -1},
		{func(p *api.Policy) { p.Default = api.Verdict{Kind: 9} }, 72, -1},
		{func(p *api.Policy) { p.Default = api.Verdict{Kind: 8, Data: 1} }, 72, -1},
		{func(p *api.Policy) { p.Rules[1].Calls = nil }, 73, 1},
		{func(p *api.Policy) { p.Rules[1].Calls = []api.Call{} }, 73, 1},
		{func(p *api.Policy) { p.Rules[1].Calls = []api.Call{{}} }, 0, 0},
		{func(p *api.Policy) { p.Rules[1].Calls = []api.Call{{Name: "write", Nr: 1}} }, 73, 1},
		{func(p *api.Policy) { p.Rules[1].Calls = []api.Call{{Name: "read", Nr: 1 << 32}} }, 73, 1},
		{func(p *api.Policy) { p.Rules[1].Calls = []api.Call{{Name: "read"}, {}} }, 74, 1},
		{func(p *api.Policy) { p.Rules[1].Calls = []api.Call{{Nr: 1<<32 - 1}, {Nr: 1<<32 - 1}} }, 74, 1},
		{func(p *api.Policy) { p.Rules[1].Calls = []api.Call{{Nr: 1<<63 + 5}} }, 73, 1},
		{func(p *api.Policy) { p.Rules[1].Calls = []api.Call{{Name: "0"}} }, 73, 1},
		{func(p *api.Policy) { p.Rules[1].When = api.Expr{} }, 76, 1},
		{func(p *api.Policy) { p.Rules[1].When = nest("n", 200, with(1)) }, 0, 0},
		{func(p *api.Policy) { p.Rules[1].When = nest("n", 201, with(1)) }, 76, 1},
		{func(p *api.Policy) { p.Rules[1].When = with(4, with(1), test(0, 1, 1, 2)) }, 75, 1},
		{func(p *api.Policy) { p.Rules[1].Do = api.Verdict{} }, 72, 1},
		{func(p *api.Policy) { p.Rules[1].Do = api.Verdict{Kind: 7, Data: 1 << 16} }, 72, 1},
	} {
		p := api.Policy{Arch: "x86_64", Foreign: rule.Do, Default: rule.Do, Rules: []api.Rule{rule, rule, rule}}
		c.turn(&p)
		if err, at := sem.Check(p); err != c.want || at != c.at {
			t.Errorf("%d: Check of %v is %d, %d, not %d, %d", i, p, err, at, c.want, c.at)
		}
		holdCheck(t, p)
	}
}

// spoiler is something that is wrong with a policy.
type spoiler struct {
	err  api.Errno
	at   int
	turn func(p *api.Policy)
}

// spoilers are what may be wrong, in the order in which it is told: of two rules, too.
func spoilers() []spoiler {
	l := []spoiler{
		{71, -1, func(p *api.Policy) { p.Arch = "arm" }},
		{72, -1, func(p *api.Policy) { p.Foreign.Kind = 0 }},
		{72, -1, func(p *api.Policy) { p.Default = api.Verdict{Kind: 4, Data: 4096} }},
		{2, -1, func(p *api.Policy) { p.Rules = append(p.Rules, slices.Repeat(p.Rules[3:4], 511)...) }},
	}
	for _, at := range []int{1, 3} {
		l = append(l,
			spoiler{74, at, func(p *api.Policy) { p.Rules[at].Calls = append(p.Rules[at].Calls, api.Call{Nr: 3}, api.Call{Nr: 7}) }},
			spoiler{73, at, func(p *api.Policy) { p.Rules[at].Calls = append(p.Rules[at].Calls, api.Call{Name: "bogus"}) }},
			spoiler{75, at, func(p *api.Policy) { p.Rules[at].When = with(3, test(0, 0, 1, 0)) }},
			spoiler{72, at, func(p *api.Policy) { p.Rules[at].Do = api.Verdict{Kind: 3, Data: 65536} }},
		)
	}
	return l
}

// Where several things are wrong, the first one is told: of all that may be wrong at once.
func TestCheckTellsTheFirst(t *testing.T) {
	l := spoilers()
	for set := range 1 << len(l) {
		p := read(t, head+"on read do log; on 7, close do log; on write do log; on 7, close do log;")
		want, wantAt := api.OK, 0
		for i, s := range l {
			if set>>i&1 == 1 {
				s.turn(&p)
				if want == api.OK {
					want, wantAt = s.err, s.at
				}
			}
		}
		if err, at := sem.Check(p); err != want || at != wantAt {
			t.Fatalf("Check of what is wrong by %b is %d, %d, not %d, %d", set, err, at, want, wantAt)
		}
	}
}

func TestCheckOfManyRules(t *testing.T) {
	p := read(t, head+strings.Repeat("on 7 do log;", 512))
	if err, at := sem.Check(p); err != 0 || at != 0 {
		t.Errorf("Check of 512 rules is %d, %d", err, at)
	}
	p.Rules[511].Calls = nil
	if err, at := sem.Check(p); err != 73 || at != 511 {
		t.Errorf("Check of 512 rules, the last one wrong, is %d, %d", err, at)
	}
	p.Rules = append(p.Rules, p.Rules[0])
	if err, at := sem.Check(p); err != 2 || at != -1 || sem.Eval(p, api.Data{}) != 0 {
		t.Errorf("Check of 513 rules is %d, %d", err, at)
	}
	p.Rules = make([]api.Rule, 1<<16)
	if err, at := sem.Check(p); err != 2 || at != -1 {
		t.Errorf("Check of 65536 rules is %d, %d", err, at)
	}
}

func TestCheckOfManyCalls(t *testing.T) {
	p := read(t, head+"on 7 do log;")
	p.Rules[0].Calls = nil
	for n := range uint64(1 << 18) {
		p.Rules[0].Calls = append(p.Rules[0].Calls, api.Call{Nr: math.MaxUint32 - n})
	}
	if err, at := sem.Check(p); err != 0 || at != 0 {
		t.Errorf("Check of many calls is %d, %d", err, at)
	}
	p.Rules[0].Calls = append(p.Rules[0].Calls, p.Rules[0].Calls[0])
	if err, at := sem.Check(p); err != 74 || at != 0 {
		t.Errorf("Check of many calls, one of them twice, is %d, %d", err, at)
	}
}

// All short lists of calls.
func TestCheckOfAllShortLists(t *testing.T) {
	calls := []api.Call{{}, {Nr: 1}, {Nr: 57}, {Nr: 63}, {Nr: 1<<32 - 1}, {Nr: 1 << 32}, {Nr: 1<<32 + 1}, {Name: "read"}, {Name: "write"}, {Name: "close"}, {Name: "fork"}, {Name: "bogus"}, {Name: "read", Nr: 63}, {Name: "read", Nr: 1}}
	for arch := range archsByHand() {
		p := api.Policy{Arch: arch, Foreign: api.Verdict{Kind: 1}, Default: api.Verdict{Kind: 8}, Rules: []api.Rule{{When: with(1), Do: api.Verdict{Kind: 7}}}}
		for _, a := range calls {
			for _, b := range calls {
				for _, c := range calls {
					for n := range 4 {
						p.Rules[0].Calls = []api.Call{a, b, c}[:n]
						holdCheck(t, p)
					}
				}
			}
		}
	}
}

// spoiledPolicy changes a few things at a policy; it may still be well formed.
func (r *random) spoiledPolicy(p api.Policy) api.Policy {
	p = copiedPolicy(p)
	others := append(noArchs(), "x86_64", "riscv64", "aarch64")
	kind := func() api.ActionKind { return api.ActionKind(r.below(11) - 1) }
	for range 1 + r.below(3) {
		i := r.below(len(p.Rules))
		x := &p.Rules[i]
		switch r.below(12) {
		case 0:
			p.Arch = others[r.below(len(others))]
		case 1:
			p.Foreign = api.Verdict{Kind: kind(), Data: r.number()}
		case 2:
			p.Default = api.Verdict{Kind: kind(), Data: r.number()}
		case 3, 4:
			x.Do = api.Verdict{Kind: kind(), Data: r.number()}
		case 5:
			x.Calls = x.Calls[:r.below(len(x.Calls)+1)]
		case 6:
			x.Calls = append(x.Calls, api.Call{Nr: r.number()})
		case 7:
			x.Calls = append(x.Calls, api.Call{Name: noNames()[r.below(len(noNames()))], Nr: r.number()})
		case 8:
			x.Calls = append(x.Calls, r.calls("x86_64")...)
		default:
			x.When = r.spoiled(x.When)
		}
	}
	return p
}

// Policies that follow no shape, well formed and nearly so; what is handed in is not changed.
func TestCheckOfAllShapes(t *testing.T) {
	r := random(19)
	seen := map[api.Errno]int{}
	for range 10000 {
		p := r.policy(1+r.below(5), r.below(4))
		if holdCheck(t, p) != 0 {
			t.Fatalf("%v is well formed", p)
		}
		p = r.spoiledPolicy(p)
		was := copiedPolicy(p)
		seen[holdCheck(t, p)]++
		if !reflect.DeepEqual(p, was) {
			t.Fatalf("%v was %v", p, was)
		}
	}
	for _, err := range []api.Errno{0, 71, 72, 73, 74, 75, 76} {
		if seen[err] < 200 {
			t.Errorf("it is told: %v", seen)
		}
	}
}
