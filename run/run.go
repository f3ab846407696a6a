// Package run: machines, which run code instant by instant.
package run

import (
	"cadence/code"
	"cadence/fault"
)

// Machine is code and what it remembers. All its memory is there from the
// beginning on.
type Machine struct {
	code  *code.Code
	cells []int64
	slots []int64
	stack []int64
}

// New makes a machine at its beginning. It keeps the code.
func New(c *code.Code) *Machine {
	m := &Machine{
		code:  c,
		cells: make([]int64, len(c.Cells)),
		slots: make([]int64, c.Slots),
		stack: make([]int64, 0, c.Depth),
	}
	m.Reset()
	return m
}

// Reset forgets all instants.
func (m *Machine) Reset() { copy(m.cells, m.code.Cells) }

// Inputs tells how many inputs an instant has.
func (m *Machine) Inputs() int { return len(m.code.Bools) }

// Outputs tells how many outputs it has.
func (m *Machine) Outputs() int { return m.code.Outputs }

// Step runs an instant. What the one before has left in the slots is cleared,
// so that nothing but the cells goes on.
func (m *Machine) Step(in []int64) ([]int64, error) {
	if err := m.refuse(in); err != nil {
		return nil, fault.In("step", err)
	}
	clear(m.slots)
	copy(m.slots, in)
	for _, i := range m.code.Row {
		m.do(i)
	}
	out := make([]int64, m.Outputs())
	copy(out, m.slots[m.Inputs():])
	return out, nil
}

// refuse tells what keeps numbers from being the inputs of an instant.
func (m *Machine) refuse(in []int64) error {
	if len(in) != m.Inputs() {
		return fault.At(fault.Input, min(len(in), m.Inputs()))
	}
	for i, isBool := range m.code.Bools {
		if isBool && in[i] != 0 && in[i] != 1 {
			return fault.At(fault.Input, i)
		}
	}
	return nil
}

func (m *Machine) push(v int64) { m.stack = append(m.stack, v) }

func (m *Machine) pop() int64 {
	last := len(m.stack) - 1
	v := m.stack[last]
	m.stack = m.stack[:last]
	return v
}

func (m *Machine) do(i code.Instruction) {
	switch i.Op {
	case code.Push:
		m.push(i.Operand)
	case code.Load:
		m.push(m.slots[i.Operand])
	case code.Store:
		m.slots[i.Operand] = m.pop()
	case code.Recall:
		m.push(m.cells[i.Operand])
	case code.Keep:
		v := m.pop()
		m.cells[i.Operand] = pick(m.pop(), v, m.cells[i.Operand])
	case code.If:
		no, yes := m.pop(), m.pop()
		m.push(pick(m.pop(), yes, no))
	case code.Choose:
		no, yes := m.pop(), m.pop()
		m.push(pick(m.slots[i.Operand], yes, no))
	case code.Negate:
		m.push(-m.pop())
	case code.Not:
		m.push(truth(m.pop() == 0))
	default:
		b, a := m.pop(), m.pop()
		m.push(reckon(i.Op, a, b))
	}
}

func pick(which, yes, no int64) int64 {
	if which != 0 {
		return yes
	}
	return no
}

func truth(holds bool) int64 {
	if holds {
		return 1
	}
	return 0
}

// reckon gives what an op makes of two values.
func reckon(op code.Op, a, b int64) int64 {
	switch op {
	case code.And:
		return a & b
	case code.Or:
		return a | b
	case code.Xor:
		return a ^ b
	case code.Equal:
		return truth(a == b)
	case code.Unequal:
		return truth(a != b)
	case code.Less:
		return truth(a < b)
	case code.LessEqual:
		return truth(a <= b)
	case code.Add:
		return a + b
	case code.Subtract:
		return a - b
	case code.Multiply:
		return a * b
	}
	return divide(op, a, b)
}

// divide has its own word for 0; the least int64 by -1 goes round by itself.
func divide(op code.Op, a, b int64) int64 {
	switch {
	case b == 0:
		return 0
	case op == code.Divide:
		return a / b
	}
	return a % b
}
