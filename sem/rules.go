package sem

import (
	"math"

	"ravelin/api"
)

// headPlace is the place of what is wrong with a policy ahead of its rules.
const headPlace = -1

// mostErrno is the greatest number that a Fault may have: the kernel takes greater ones for this one.
const mostErrno = 4095

// mostData is how great the Data of a verdict may be at most; that some kinds have none at all, secdata tells.
func mostData(kind api.ActionKind) uint64 {
	if kind == api.Fault {
		return mostErrno
	}
	return math.MaxUint16
}

// headFault is what is wrong with a policy ahead of its rules, beside its architecture.
func headFault(p api.Policy) api.Errno {
	for _, v := range []api.Verdict{p.Foreign, p.Default} {
		if _, is := Action(v); !is {
			return api.ErrSemAction
		}
	}
	if len(p.Rules) > api.MaxRules {
		return api.ErrTooMany
	}
	return api.OK
}

// ruleFault is what is wrong with a rule.
func (s system) ruleFault(r api.Rule) api.Errno {
	if err := s.callsFault(r.Calls); err != api.OK {
		return err
	}
	if err := Expr(r.When); err != api.OK {
		return err
	}
	if _, is := Action(r.Do); !is {
		return api.ErrSemAction
	}
	return api.OK
}

// callsFault is what is wrong with a rule's calls.
func (s system) callsFault(calls []api.Call) api.Errno {
	if len(calls) == 0 {
		return api.ErrSemCall
	}
	met := map[uint32]struct{}{}
	for _, c := range calls {
		n, is := s.numberOf(c)
		if !is {
			return api.ErrSemCall
		}
		if _, twice := met[n]; twice {
			return api.ErrSemTwice
		}
		met[n] = struct{}{}
	}
	return api.OK
}

// verdict is what a policy that is well formed says of data.
func verdict(p api.Policy, d api.Data) api.Verdict {
	s, _ := systemOf(p.Arch)
	if d.Arch != s.word {
		return p.Foreign
	}
	l := lookAt(d)
	for _, r := range p.Rules {
		if s.has(r.Calls, d.Nr) && l.holds(r.When) {
			return r.Do
		}
	}
	return p.Default
}

// has: is this the number of one of these calls?
func (s system) has(calls []api.Call, nr uint32) bool {
	for _, c := range calls {
		if n, is := s.numberOf(c); is && n == nr {
			return true
		}
	}
	return false
}
