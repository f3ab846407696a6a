// Package fault: what can be wrong with what is handed in, as error values.
package fault

import (
	"errors"
	"strconv"
)

// The kinds. An error is asked for its kind by errors.Is.
var (
	Long   = errors.New("more bytes than a program may have")
	Syntax = errors.New("no program")
	Deep   = errors.New("more things open in one another than may be")
	Name   = errors.New("a name that means nothing here, or too much")
	Type   = errors.New("an operand of another type than it must have")
	Clock  = errors.New("something that is not there when it is needed")
	Define = errors.New("a variable that is not defined just once")
	Cause  = errors.New("a variable that hangs on itself")
	Limit  = errors.New("more memory than there may be")
	Image  = errors.New("no image")
	Input  = errors.New("no input of this machine")
)

// Fault is one thing that is wrong, and its place in the program's text, in the
// image or among the inputs.
type Fault struct {
	Kind  error
	Place int
}

// At makes a fault of a kind at a place.
func At(kind error, place int) Fault {
	return Fault{Kind: kind, Place: place}
}

func (f Fault) Error() string {
	return f.Kind.Error() + " at " + strconv.Itoa(f.Place)
}

// Unwrap gives the kind, so that errors.Is finds it.
func (f Fault) Unwrap() error { return f.Kind }

// Pass is an error and the pass that came upon it.
type Pass struct {
	Name string
	Err  error
}

// In wraps what a pass came upon; of nothing it makes nothing.
func In(pass string, err error) error {
	if err == nil {
		return nil
	}
	return Pass{Name: pass, Err: err}
}

func (p Pass) Error() string { return p.Name + ": " + p.Err.Error() }

// Unwrap gives what the pass came upon.
func (p Pass) Unwrap() error { return p.Err }
