package opt_test

import (
	"fmt"
	"slices"
	"testing"

	"ravelin/api"
	"ravelin/cbpf"
	"ravelin/check"
	"ravelin/opt"
)

// brief is the beginning of what is told of a program: it may be long.
func brief(x any) string {
	s := fmt.Sprint(x)
	return s[:min(len(s), 900)]
}

// call is one of the chapter's.
type call struct {
	name string
	do   func(q []api.Insn) ([]api.Insn, api.Errno)
}

func calls() []call {
	return []call{{"Thread", opt.Thread}, {"Fold", opt.Fold}, {"Sweep", opt.Sweep}, {"Prune", opt.Prune}, {"Optimize", opt.Optimize}}
}

func isBranch(in api.Insn) bool {
	return slices.Contains([]uint16{0x15, 0x25, 0x35, 0x45, 0x1d, 0x2d, 0x3d, 0x4d}, in.Code)
}

func isJa(in api.Insn) bool { return in.Code == 0x05 }

// ways are the places to which an instruction of an accepted program leads, both of a jump that has two, even if they are the same.
func ways(q []api.Insn, at int) []int {
	switch in := q[at]; {
	case in.Code == 0x06, in.Code == 0x16:
		return nil
	case isJa(in):
		return []int{at + 1 + int(in.K)}
	case isBranch(in):
		return []int{at + 1 + int(in.Jt), at + 1 + int(in.Jf)}
	}
	return []int{at + 1}
}

// reach tells which instructions can be come to.
func reach(q []api.Insn) []bool {
	met := make([]bool, len(q))
	met[0] = true
	for at := range q {
		if met[at] {
			for _, to := range ways(q, at) {
				met[to] = true
			}
		}
	}
	return met
}

// holdSays: what a call made is accepted, has no more instructions, and answers over data what the program answers.
func holdSays(t *testing.T, name string, q, got []api.Insn, err api.Errno, data [][]byte) {
	t.Helper()
	if err != 0 {
		t.Fatalf("%s of %s is refused: %d", name, brief(q), err)
	}
	if e, at := check.Check(got); e != 0 {
		t.Fatalf("%s of %s is %s: %d at %d", name, brief(q), brief(got), e, at)
	}
	if len(got) > len(q) {
		t.Fatalf("%s of %s is longer: %s", name, brief(q), brief(got))
	}
	for _, b := range data {
		want, _, _, _ := cbpf.Run(q, b)
		if answer, _, e, _ := cbpf.Run(got, b); answer != want || e != 0 {
			t.Fatalf("%s of %s is %s: over %v it answers %#x, %d, not %#x", name, brief(q), brief(got), b, answer, e, want)
		}
	}
}

// holdAnswer: a program answers so over data.
func holdAnswer(t *testing.T, q []api.Insn, b []byte, want uint32) {
	t.Helper()
	if answer, _, err, _ := cbpf.Run(q, b); answer != want || err != 0 {
		t.Fatalf("%s answers %#x, %d over %v, not %#x", brief(q), answer, err, b, want)
	}
}

// hold holds all calls of an accepted program against the chapter: what Optimize made of it.
func hold(t *testing.T, q []api.Insn, data [][]byte) []api.Insn {
	t.Helper()
	if err, at := check.Check(q); err != 0 {
		t.Fatalf("%s is not accepted: %d at %d", brief(q), err, at)
	}
	made := map[string][]api.Insn{}
	for _, c := range calls() {
		got, err := c.do(q)
		holdSays(t, c.name, q, got, err, data)
		made[c.name] = got
	}
	holdThread(t, q, made["Thread"])
	holdFold(t, q, made["Fold"])
	holdSweep(t, q, made["Sweep"])
	if got, want := made["Prune"], pruned(q); !slices.Equal(got, want) {
		t.Fatalf("Prune of %s is %s, not %s", brief(q), brief(got), brief(want))
	}
	holdOptimize(t, q, made["Optimize"])
	return made["Optimize"]
}

// ends are, of each place, where a way ends that leads to it: behind all that goes one way, whatever it looks at.
func ends(q []api.Insn) []int {
	l := make([]int, len(q))
	for at := len(q) - 1; at >= 0; at-- {
		l[at] = at
		if !isJa(q[at]) && !isBranch(q[at]) {
			continue
		}
		to := ways(q, at)
		if first, last := l[to[0]], l[to[len(to)-1]]; first == last {
			l[at] = first
		}
	}
	return l
}

// holdJumps: no Ja leads to a Ja, and no other jump's two ways are the same.
func holdJumps(t *testing.T, name string, q, got []api.Insn) {
	t.Helper()
	for at, in := range got {
		if isJa(in) && isJa(got[ways(got, at)[0]]) {
			t.Fatalf("%s of %s is %s: the Ja at %d leads to a Ja", name, brief(q), brief(got), at)
		}
		if isBranch(in) && in.Jt == in.Jf {
			t.Fatalf("%s of %s is %s: the ways of the jump at %d are the same", name, brief(q), brief(got), at)
		}
	}
}

// holdThread holds Thread against the chapter; its ways end where they ended, and lead there if they can.
func holdThread(t *testing.T, q, got []api.Insn) {
	t.Helper()
	if len(got) != len(q) {
		t.Fatalf("Thread of %s is %s", brief(q), brief(got))
	}
	holdJumps(t, "Thread", q, got)
	wants, are := ends(q), ends(got)
	for at, in := range q {
		if !isJa(in) && !isBranch(in) {
			if got[at] != in {
				t.Fatalf("Thread of %s is %s: at %d it is no jump", brief(q), brief(got), at)
			}
			continue
		}
		if isBranch(got[at]) && (got[at].Code != in.Code || got[at].K != in.K) || isJa(in) && !isJa(got[at]) {
			t.Fatalf("Thread of %s is %s: at %d it asks something else", brief(q), brief(got), at)
		}
		before, after := ways(q, at), ways(got, at)
		for i, to := range before {
			want := wants[to]
			is := after[min(i, len(after)-1)]
			if are[is] != want || is != want && (isJa(got[at]) || want-at-1 < 256) {
				t.Fatalf("Thread of %s is %s: at %d way %d leads to %d, and not to %d", brief(q), brief(got), at, i, is, want)
			}
		}
	}
}

// pruned is what the chapter says of Prune, instruction by instruction.
func pruned(q []api.Insn) []api.Insn {
	met := reach(q)
	between := func(from, to int) int {
		n := 0
		for at := from + 1; at < to; at++ {
			if met[at] {
				n++
			}
		}
		return n
	}
	var l []api.Insn
	for at, in := range q {
		if !met[at] {
			continue
		}
		switch to := ways(q, at); {
		case isJa(in):
			in.K = uint32(between(at, to[0]))
		case isBranch(in):
			in.Jt, in.Jf = uint8(between(at, to[0])), uint8(between(at, to[1]))
		}
		l = append(l, in)
	}
	return l
}

// holdSweep holds Sweep against the chapter: what is left are instructions of the program, in their order, and no Ja to the next one.
func holdSweep(t *testing.T, q, got []api.Insn) {
	t.Helper()
	left := q
	for at, in := range got {
		if isJa(in) && in.K == 0 {
			t.Fatalf("Sweep of %s is %s: the Ja at %d leads to the next one", brief(q), brief(got), at)
		}
		i := slices.IndexFunc(left, func(x api.Insn) bool { return plain(x) == plain(in) })
		if i < 0 {
			t.Fatalf("Sweep of %s is %s: the one at %d was not there", brief(q), brief(got), at)
		}
		left = left[i+1:]
	}
	if again, err := opt.Sweep(got); err != 0 || !slices.Equal(again, got) {
		t.Fatalf("Sweep of %s, which Sweep made, is %s", brief(got), brief(again))
	}
}

// plain is an instruction without its ways.
func plain(in api.Insn) api.Insn {
	switch {
	case isJa(in):
		in.K = 0
	case isBranch(in):
		in.Jt, in.Jf = 0, 0
	}
	return in
}

// holdOptimize holds the form of what Optimize made against the chapter.
func holdOptimize(t *testing.T, q, got []api.Insn) {
	t.Helper()
	holdJumps(t, "Optimize", q, got)
	for at, met := range reach(got) {
		if !met {
			t.Fatalf("Optimize of %s is %s: nobody comes to %d", brief(q), brief(got), at)
		}
		if isJa(got[at]) && got[at].K == 0 {
			t.Fatalf("Optimize of %s is %s: the Ja at %d leads to the next one", brief(q), brief(got), at)
		}
	}
	if again, err := opt.Optimize(got); err != 0 || !slices.Equal(again, got) {
		t.Fatalf("Optimize of %s, which Optimize made of %s, is %s, %d", brief(got), brief(q), brief(again), err)
	}
}

// holdRefused: of a program that is not accepted there is ErrArg, and nothing else.
func holdRefused(t *testing.T, q []api.Insn) {
	t.Helper()
	if err, _ := check.Check(q); err == 0 {
		t.Fatalf("%s is accepted", brief(q))
	}
	keep := slices.Clone(q)
	for _, c := range calls() {
		if got, err := c.do(q); len(got) != 0 || err != 1 || !slices.Equal(keep, q) {
			t.Errorf("%s of %s is %s, %d", c.name, brief(keep), brief(got), err)
		}
	}
}

// holdFresh: a program is not changed, nor its spare room, and what comes out shares no memory with it, nor with what comes out of it again.
func holdFresh(t *testing.T, q []api.Insn) {
	t.Helper()
	keep := slices.Clone(q[:cap(q)])
	for _, c := range calls() {
		first, _ := c.do(q)
		want := slices.Clone(first)
		second, _ := c.do(q)
		first = first[:cap(first)]
		for i := range first {
			first[i] = api.Insn{Code: 0xffff, Jt: 1, Jf: 2, K: 3}
		}
		third, _ := c.do(q)
		if !slices.Equal(second, want) || !slices.Equal(third, want) || !slices.Equal(keep, q[:cap(q)]) {
			t.Fatalf("%s of %s is %s, then %s, then %s; that is %s now", c.name, brief(keep), brief(want), brief(second), brief(third), brief(q))
		}
	}
}
