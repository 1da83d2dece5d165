package sem

import (
	"math"

	"ravelin/api"
)

// system is what an architecture has: its word, and its system calls by rising numbers.
type system struct {
	word  uint32
	calls []systemCall
}

type systemCall struct {
	name   string
	number uint32
}

// systemOf is the system of an architecture, if there is one of this name.
func systemOf(arch string) (system, bool) {
	switch arch {
	case "x86_64":
		return system{0xc000003e, oldCalls()}, true
	case "riscv64":
		return system{0xc00000f3, sharedCalls()}, true
	case "aarch64":
		return system{0xc00000b7, sharedCalls()}, true
	}
	return system{}, false
}

// oldCalls are those of x86_64, which has numbers of its own.
func oldCalls() []systemCall {
	return []systemCall{
		{"read", 0}, {"write", 1}, {"open", 2}, {"close", 3}, {"stat", 4},
		{"mmap", 9}, {"mprotect", 10}, {"brk", 12}, {"ioctl", 16}, {"getpid", 39},
		{"socket", 41}, {"connect", 42}, {"clone", 56}, {"fork", 57}, {"execve", 59},
		{"exit", 60}, {"kill", 62}, {"ptrace", 101}, {"prctl", 157}, {"exit_group", 231},
		{"openat", 257}, {"seccomp", 317}, {"getrandom", 318}, {"bpf", 321},
	}
}

// sharedCalls are those of the architectures that have their numbers in common.
func sharedCalls() []systemCall {
	return []systemCall{
		{"ioctl", 29}, {"openat", 56}, {"close", 57}, {"read", 63}, {"write", 64},
		{"exit", 93}, {"exit_group", 94}, {"ptrace", 117}, {"kill", 129}, {"prctl", 167},
		{"getpid", 172}, {"socket", 198}, {"connect", 203}, {"brk", 214}, {"clone", 220},
		{"execve", 221}, {"mmap", 222}, {"mprotect", 226}, {"seccomp", 277}, {"getrandom", 278},
		{"bpf", 280},
	}
}

// named is the number of a name.
func (s system) named(name string) (uint32, bool) {
	for _, c := range s.calls {
		if c.name == name {
			return c.number, true
		}
	}
	return 0, false
}

// numberOf is the number of a call as it is written.
func (s system) numberOf(c api.Call) (uint32, bool) {
	switch {
	case c.Name == "" && c.Nr <= math.MaxUint32:
		return uint32(c.Nr), true
	case c.Name != "" && c.Nr == 0:
		return s.named(c.Name)
	}
	return 0, false
}
