package check

import (
	"errors"
	"strings"
	"testing"

	"cadence/fault"
	"cadence/read"
)

func TestEachPassWrapsItsFault(t *testing.T) {
	for _, c := range []struct {
		src   string
		pass  string
		kind  error
		place int
	}{
		{"node n(a: int) -> (y: int) { y = b; }", "names", fault.Name, 33},
		{"node n(a: int) -> (y: int) { y = true; }", "types", fault.Type, 31},
		{"node n(a: bool) -> (y: int) { y = 1 when a; }", "clocks", fault.Clock, 36},
		{"node n(a: int) -> (y: int) { y = a; y = a; }", "definitions", fault.Define, 36},
		{"node n(a: int) -> (y: int) { y = y; }", "causes", fault.Cause, 5},
		{"node n(a: int) -> (y: int) { y = 0" + strings.Repeat("+(0 fby a)", 61) + "; }", "memory", fault.Limit, 0},
	} {
		p, err := read.Program(c.src)
		if err != nil {
			t.Fatal(err)
		}
		err = Program(p)
		var w fault.Pass
		var f fault.Fault
		if !errors.As(err, &w) || w.Name != c.pass {
			t.Errorf("%q: %v, want it from the pass %s", c.src, err, c.pass)
		}
		if !errors.As(err, &f) || f.Place != c.place || !errors.Is(err, c.kind) {
			t.Errorf("%q: %v, want %v at %d", c.src, err, c.kind, c.place)
		}
	}
}

func TestNothingWrong(t *testing.T) {
	p, err := read.Program("node n(a: int) -> (y: int) { y = a; }")
	if err == nil {
		err = Program(p)
	}
	if err != nil {
		t.Error(err)
	}
}
