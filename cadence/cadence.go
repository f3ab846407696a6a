// Package cadence: programs of streams: see DOC.md.
package cadence

import (
	"cadence/api"
	"cadence/canon"
	"cadence/check"
	"cadence/read"
)

// Check tells what is wrong with a program (P3).
func Check(src string) (api.Errno, int) {
	program, err := read.Program(src)
	if err == nil {
		err = check.Program(program)
	}
	return answer(err)
}

// Print tells a program's canonical text (P4).
func Print(src string) (string, api.Errno, int) {
	program, err := read.Program(src)
	if err != nil {
		e, place := answer(err)
		return "", e, place
	}
	return canon.Text(program), api.OK, 0
}

// Compile makes an image of a program (P6).
func Compile(src string) ([]byte, api.Errno, int) { return nil, api.OK, 0 }

// Machine runs an image, instant by instant.
type Machine struct{}

// Load makes a machine of an image (P7).
func Load(image []byte) (*Machine, api.Errno) { return nil, api.OK }

// Inputs tells how many inputs an instant has (P7).
func (m *Machine) Inputs() int { return 0 }

// Outputs tells how many outputs it has (P7).
func (m *Machine) Outputs() int { return 0 }

// Step runs an instant (P8).
func (m *Machine) Step(in []int64) ([]int64, api.Errno) { return nil, api.OK }

// Reset goes back to the beginning (P9).
func (m *Machine) Reset() {}
