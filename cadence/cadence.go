// Package cadence: programs of streams: see DOC.md.
package cadence

import (
	"cadence/api"
	"cadence/canon"
	"cadence/check"
	"cadence/code"
	"cadence/compile"
	"cadence/read"
	"cadence/run"
	"cadence/tree"
)

// Check tells what is wrong with a program (P3).
func Check(src string) (api.Errno, int) {
	_, err := checked(src)
	return answer(err)
}

// checked reads a program, if nothing is wrong with it.
func checked(src string) (*tree.Program, error) {
	program, err := read.Program(src)
	if err == nil {
		err = check.Program(program)
	}
	return program, err
}

// Print tells a program's canonical text (P4).
func Print(src string) (string, api.Errno, int) {
	program, err := read.Program(src)
	if err != nil {
		e, place := answer(err)
		return "", e, place
	}
	return canon.Text(program), api.OK, 0
}

// Compile makes an image of a program (P6).
func Compile(src string) ([]byte, api.Errno, int) {
	program, err := checked(src)
	if err != nil {
		e, place := answer(err)
		return nil, e, place
	}
	return code.Pack(compile.Program(program)), api.OK, 0
}

// Machine runs an image, instant by instant.
type Machine struct {
	core *run.Machine
}

// Load makes a machine of an image (P7).
func Load(image []byte) (*Machine, api.Errno) {
	c, err := code.Unpack(image)
	if err != nil {
		e, _ := answer(err)
		return nil, e
	}
	return &Machine{core: run.New(c)}, api.OK
}

// Inputs tells how many inputs an instant has (P7).
func (m *Machine) Inputs() int { return m.core.Inputs() }

// Outputs tells how many outputs it has (P7).
func (m *Machine) Outputs() int { return m.core.Outputs() }

// Step runs an instant (P8).
func (m *Machine) Step(in []int64) ([]int64, api.Errno) {
	out, err := m.core.Step(in)
	e, _ := answer(err)
	return out, e
}

// Reset goes back to the beginning (P9).
func (m *Machine) Reset() { m.core.Reset() }
