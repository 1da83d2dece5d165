package sem_test

import (
	"fmt"
	"slices"
	"strconv"
	"strings"

	"ravelin/api"
)

// whole is a mask that lets all bits through.
const whole uint64 = 0xffffffffffffffff

// The chapter's table of names, as it stands there.
const (
	oldNames    = "read 0, write 1, open 2, close 3, stat 4, mmap 9, mprotect 10, brk 12, ioctl 16, getpid 39, socket 41, connect 42, clone 56, fork 57, execve 59, exit 60, kill 62, ptrace 101, prctl 157, exit_group 231, openat 257, seccomp 317, getrandom 318, bpf 321"
	sharedNames = "ioctl 29, openat 56, close 57, read 63, write 64, exit 93, exit_group 94, ptrace 117, kill 129, prctl 167, getpid 172, socket 198, connect 203, brk 214, clone 220, execve 221, mmap 222, mprotect 226, seccomp 277, getrandom 278, bpf 280"
)

// archsByHand are the architectures with their words.
func archsByHand() map[string]uint32 {
	return map[string]uint32{"x86_64": 0xc000003e, "riscv64": 0xc00000f3, "aarch64": 0xc00000b7}
}

// namesByHand are an architecture's names and their numbers, as the chapter lists them.
func namesByHand(arch string) ([]string, map[string]uint32) {
	table := map[string]string{"x86_64": oldNames, "riscv64": sharedNames, "aarch64": sharedNames}[arch]
	if table == "" {
		return nil, nil
	}
	var names []string
	numbers := map[string]uint32{}
	for part := range strings.SplitSeq(table, ", ") {
		name, n, _ := strings.Cut(part, " ")
		v, err := strconv.ParseUint(n, 10, 32)
		if err != nil {
			panic(err)
		}
		names = append(names, name)
		numbers[name] = uint32(v)
	}
	return names, numbers
}

// wordByHand is the word of a verdict, if it is one of an action.
func wordByHand(v api.Verdict) (uint32, bool) {
	begin := map[api.ActionKind]uint32{1: 0x80000000, 2: 0, 3: 0x00030000, 4: 0x00050000, 5: 0x7fc00000, 6: 0x7ff00000, 7: 0x7ffc0000, 8: 0x7fff0000}
	most := map[api.ActionKind]uint64{3: 65535, 4: 4095, 6: 65535}
	w, is := begin[v.Kind]
	if !is || v.Data > most[v.Kind] {
		return 0, false
	}
	return w + uint32(v.Data), true
}

// exprByHand goes through the expressions that stand in one, in their order, by a list of those that are left.
func exprByHand(e api.Expr) api.Errno {
	type part struct {
		e      api.Expr
		within int
	}
	left := []part{{e, 0}}
	for len(left) > 0 {
		x := left[len(left)-1]
		left = left[:len(left)-1]
		if x.within == 201 || !rightByHand(x.e) {
			return 76
		}
		if x.e.Op == 6 && (x.e.Mask == 0 || x.e.Mask|x.e.Value != x.e.Mask) {
			return 75
		}
		for i := len(x.e.Args) - 1; i >= 0; i-- {
			left = append(left, part{x.e.Args[i], x.within + 1})
		}
	}
	return 0
}

// rightByHand: is all right of an expression but its mask, its value, and what stands in it?
func rightByHand(e api.Expr) bool {
	least := []int{-1, 0, 0, 1, 2, 2, 0}
	most := []int{-1, 0, 0, 1, 1 << 40, 1 << 40, 0}
	if e.Op < 0 || e.Op > 6 || len(e.Args) < least[e.Op] || len(e.Args) > most[e.Op] {
		return false
	}
	return e.Op != 6 || strings.Contains("0123456", digit(e.Field)) && strings.Contains("123456", digit(int(e.Rel)))
}

// digit is a number of one digit, or what is none.
func digit(n int) string {
	if s := strconv.Itoa(n); len(s) == 1 {
		return s
	}
	return "none"
}

// bits are a number's, the highest first: as texts they stand in the order of the numbers.
func bits(v uint64) string { return fmt.Sprintf("%064b", v) }

// testByHand holds a test of what may be against data, letter by letter.
func testByHand(e api.Expr, d api.Data) bool {
	fields := []uint64{d.Args[0], d.Args[1], d.Args[2], d.Args[3], d.Args[4], d.Args[5], d.IP}
	seen, mask := []byte(bits(fields[e.Field])), bits(e.Mask)
	for i := range seen {
		seen[i] = min(seen[i], mask[i])
	}
	order := strings.Compare(string(seen), bits(e.Value))
	orders := [][]int{{}, {0}, {-1, 1}, {-1}, {-1, 0}, {1}, {0, 1}}
	return slices.Contains(orders[e.Rel], order)
}

// holdsByHand: does an expression that may be hold? Of several ones it counts those that do.
func holdsByHand(e api.Expr, d api.Data) bool {
	n := 0
	for _, arg := range e.Args {
		if holdsByHand(arg, d) {
			n++
		}
	}
	switch e.Op {
	case 1:
		return true
	case 3:
		return n == 0
	case 4:
		return n == len(e.Args)
	case 5:
		return n > 0
	case 6:
		return testByHand(e, d)
	}
	return false
}

// numberByHand is the number of a call, or a text that says that it has none.
func numberByHand(arch string, c api.Call) string {
	_, numbers := namesByHand(arch)
	n, is := numbers[c.Name]
	switch {
	case c.Name == "" && c.Nr < 1<<32:
		return strconv.FormatUint(c.Nr, 10)
	case c.Name != "" && is && c.Nr == 0:
		return strconv.FormatUint(uint64(n), 10)
	}
	return "none"
}

// callsByHand is what is wrong with the calls of a rule.
func callsByHand(arch string, l []api.Call) api.Errno {
	if len(l) == 0 {
		return 73
	}
	ahead := ","
	for _, c := range l {
		n := numberByHand(arch, c)
		if n == "none" {
			return 73
		}
		if strings.Contains(ahead, ","+n+",") {
			return 74
		}
		ahead += n + ","
	}
	return 0
}

// checkByHand is what is wrong with a policy, and its place.
func checkByHand(p api.Policy) (api.Errno, int) {
	if archsByHand()[p.Arch] == 0 {
		return 71, -1
	}
	_, foreign := wordByHand(p.Foreign)
	_, other := wordByHand(p.Default)
	if !foreign || !other {
		return 72, -1
	}
	if len(p.Rules) > 512 {
		return 2, -1
	}
	for i, r := range p.Rules {
		if err := callsByHand(p.Arch, r.Calls); err != 0 {
			return err, i
		}
		if err := exprByHand(r.When); err != 0 {
			return err, i
		}
		if _, is := wordByHand(r.Do); !is {
			return 72, i
		}
	}
	return 0, 0
}

// evalByHand goes through the rules from the last to the first: what the first one says is what is left.
func evalByHand(p api.Policy, d api.Data) uint32 {
	if err, _ := checkByHand(p); err != 0 {
		return 0
	}
	v := p.Default
	for i := len(p.Rules) - 1; i >= 0; i-- {
		for _, c := range p.Rules[i].Calls {
			if numberByHand(p.Arch, c) == strconv.Itoa(int(d.Nr)) && holdsByHand(p.Rules[i].When, d) {
				v = p.Rules[i].Do
			}
		}
	}
	if archsByHand()[p.Arch] != d.Arch {
		v = p.Foreign
	}
	w, _ := wordByHand(v)
	return w
}
