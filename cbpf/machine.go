package cbpf

import (
	"slices"

	"ravelin/api"
	"ravelin/secdata"
)

// Machine is a program that runs.
type Machine struct {
	program    []api.Insn
	data       []byte
	operations map[uint16]operation
	a, x       uint32
	scratch    [api.Scratch]uint32
	place      int
	steps      int
	through    bool
	answer     uint32
	err        api.Errno
}

// New is one ahead of its first step.
func New(q []api.Insn, data []byte) *Machine {
	return &Machine{program: slices.Clone(q), data: slices.Clone(data), operations: operations()}
}

// Step does one: is it through?
func (m *Machine) Step() bool {
	if m.through {
		return true
	}
	if err := m.fault(); err != api.OK {
		m.through = true
		m.err = err
		return true
	}
	in := m.program[m.place]
	m.operations[in.Code](m, in)
	m.steps++
	// One that ended well stays at the instruction by which it ended.
	if !m.through {
		m.place++
	}
	return m.through
}

// fault is why the next instruction can't be done.
func (m *Machine) fault() api.Errno {
	if len(m.data) != api.DataLen {
		return api.ErrSecdataLen
	}
	if m.place >= len(m.program) {
		return api.ErrCbpfJump
	}
	in := m.program[m.place]
	if m.operations[in.Code] == nil {
		return api.ErrCbpfCode
	}
	return m.operandFault(in)
}

// operandFault is why an operation can't be done with its K.
func (m *Machine) operandFault(in api.Insn) api.Errno {
	switch in.Code {
	case api.Ld | api.Abs:
		if _, err := secdata.Word(m.data, int(in.K)); err != api.OK {
			return api.ErrCbpfLoad
		}
	case api.Ld | api.Mem, api.Ldx | api.Mem, api.St, api.Stx:
		if in.K >= api.Scratch {
			return api.ErrCbpfMem
		}
	case api.Alu | api.Div:
		if in.K == 0 {
			return api.ErrCbpfDiv
		}
	}
	return api.OK
}

// State is what there is: A, X, the scratch words, the place.
func (m *Machine) State() (uint32, uint32, []uint32, int) {
	return m.a, m.x, slices.Clone(m.scratch[:]), m.place
}

// Answer is how it ended.
func (m *Machine) Answer() (uint32, int, api.Errno, int) {
	if m.err != api.OK {
		return 0, m.steps, m.err, m.place
	}
	return m.answer, m.steps, api.OK, 0
}
