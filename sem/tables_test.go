package sem_test

import (
	"math"
	"slices"
	"strings"
	"testing"

	"ravelin/api"
	"ravelin/sem"
)

// noArchs are names that no architecture has.
func noArchs() []string {
	return []string{"", "arm", "x86", "x86-64", "x86_6", "x86_644", "X86_64", "x86_64 ", " x86_64", "x86_64\x00", "amd64", "i386", "riscv", "riscv32", "Riscv64", "RISCV64", "rv64", "arm64", "aarch", "aarch32", "aarch64_be", "AARCH64", "read", "0xc000003e"}
}

// noNames are those that no system call has, on no architecture.
func noNames() []string {
	return []string{"", "bogus", "Read", "READ", "read ", " read", "read\x00", "rea", "reads", "readd", "exitgroup", "exit-group", "exit_grou", "x86_64", "0", "63", "openat2", "clone3", "vfork", "close_range", "lstat", "arg0", "?"}
}

func TestArch(t *testing.T) {
	for name, want := range archsByHand() {
		if w, is := sem.Arch(name); w != want || !is {
			t.Errorf("Arch(%q) is %#x, %t", name, w, is)
		}
	}
	for _, name := range append(noArchs(), strings.Repeat("x86_64", 1<<18)) {
		if w, is := sem.Arch(name); w != 0 || is {
			t.Errorf("Arch(%.20q) is %#x, %t", name, w, is)
		}
	}
}

// Each name of the document's table, on each architecture, and others.
func TestNumber(t *testing.T) {
	every := strings.FieldsFunc(oldNames+", "+sharedNames, func(c rune) bool { return c == ' ' || c == ',' || c >= '0' && c <= '9' })
	for arch := range archsByHand() {
		_, numbers := namesByHand(arch)
		for _, name := range slices.Concat(noNames(), every, []string{strings.Repeat("read", 1<<18)}) {
			want, wantIs := numbers[name]
			if n, is := sem.Number(arch, name); n != want || is != wantIs {
				t.Errorf("Number(%q, %.20q) is %d, %t, not %d, %t", arch, name, n, is, want, wantIs)
			}
		}
	}
	for _, arch := range noArchs() {
		for _, name := range append(noNames(), every...) {
			if n, is := sem.Number(arch, name); n != 0 || is {
				t.Errorf("Number(%.20q, %.20q) is %d, %t", arch, name, n, is)
			}
		}
	}
}

func TestNames(t *testing.T) {
	for arch := range archsByHand() {
		want, _ := namesByHand(arch)
		l := sem.Names(arch)
		if !slices.Equal(l, want) {
			t.Errorf("Names(%q) is %q", arch, l)
		}
		last := -1
		for _, name := range l {
			n, is := sem.Number(arch, name)
			if !is || int(n) <= last {
				t.Errorf("%q has the number %d, %t behind %d on %q", name, n, is, last, arch)
			}
			last = int(n)
		}
	}
	for _, arch := range noArchs() {
		if l := sem.Names(arch); len(l) != 0 {
			t.Errorf("Names(%.20q) is %q", arch, l)
		}
	}
}

// What Names answers is new memory, its spare room too.
func TestNamesAreNew(t *testing.T) {
	for arch := range archsByHand() {
		want, numbers := namesByHand(arch)
		l, other := sem.Names(arch), sem.Names(arch)
		for i := range l[:cap(l)] {
			l[:cap(l)][i] = "bogus"
		}
		for range 100 {
			l = append(l, "more")
		}
		if !slices.Equal(other, want) || !slices.Equal(sem.Names(arch), want) {
			t.Errorf("Names(%q) changes with what it answered", arch)
		}
		if n, is := sem.Number(arch, want[0]); n != numbers[want[0]] || !is {
			t.Errorf("Number(%q, %q) changes with what Names answered", arch, want[0])
		}
	}
}

// manyKinds are those there are, and numbers around them.
func manyKinds() []api.ActionKind {
	l := []api.ActionKind{math.MinInt, math.MinInt + 4, -1 << 32, -1<<32 + 4, 1<<8 + 4, 1<<16 + 4, 1<<32 + 3, 1<<32 + 4, 1<<61 + 4, math.MaxInt}
	for kind := api.ActionKind(-20); kind < 30; kind++ {
		l = append(l, kind)
	}
	return l
}

// Each kind with each number that an edge stands by.
func TestAction(t *testing.T) {
	n := 0
	for _, kind := range manyKinds() {
		for _, data := range edges() {
			v := api.Verdict{Kind: kind, Data: data}
			want, wantIs := wordByHand(v)
			if w, is := sem.Action(v); w != want || is != wantIs {
				t.Errorf("Action of %v is %#x, %t, not %#x, %t", v, w, is, want, wantIs)
			}
			if wantIs {
				n++
			}
		}
	}
	if n < 30 {
		t.Errorf("only %d verdicts have words", n)
	}
}

// Each number of 17 bits.
func TestActionOfAllNumbers(t *testing.T) {
	for kind := api.ActionKind(0); kind <= 9; kind++ {
		for data := range uint64(1 << 17) {
			v := api.Verdict{Kind: kind, Data: data}
			want, wantIs := wordByHand(v)
			if w, is := sem.Action(v); w != want || is != wantIs {
				t.Fatalf("Action of %v is %#x, %t, not %#x, %t", v, w, is, want, wantIs)
			}
		}
	}
}

func TestActionExamples(t *testing.T) {
	for _, c := range []struct {
		v    api.Verdict
		want uint32
		is   bool
	}{
		{api.Verdict{Kind: api.KillProcess}, 0x80000000, true},
		{api.Verdict{Kind: api.KillThread}, 0, true},
		{api.Verdict{Kind: api.KillThread, Data: 1}, 0, false},
		{api.Verdict{Kind: api.Trap, Data: 65535}, 0x0003ffff, true},
		{api.Verdict{Kind: api.Trap, Data: 65536}, 0, false},
		{api.Verdict{Kind: api.Fault}, 0x00050000, true},
		{api.Verdict{Kind: api.Fault, Data: 1}, 0x00050001, true},
		{api.Verdict{Kind: api.Fault, Data: 4095}, 0x00050fff, true},
		{api.Verdict{Kind: api.Fault, Data: 4096}, 0, false},
		{api.Verdict{Kind: api.Fault, Data: 1 << 32}, 0, false},
		{api.Verdict{Kind: api.Notify}, 0x7fc00000, true},
		{api.Verdict{Kind: api.Notify, Data: 1 << 16}, 0, false},
		{api.Verdict{Kind: api.Trace, Data: 65535}, 0x7ff0ffff, true},
		{api.Verdict{Kind: api.Trace, Data: 1<<64 - 1}, 0, false},
		{api.Verdict{Kind: api.Log}, 0x7ffc0000, true},
		{api.Verdict{Kind: api.Allow}, 0x7fff0000, true},
		{api.Verdict{Kind: api.Allow, Data: 1 << 32}, 0, false},
		{api.Verdict{}, 0, false},
		{api.Verdict{Kind: 9}, 0, false},
		{api.Verdict{Kind: -1}, 0, false},
	} {
		if w, is := sem.Action(c.v); w != c.want || is != c.is {
			t.Errorf("Action of %v is %#x, %t", c.v, w, is)
		}
	}
}
