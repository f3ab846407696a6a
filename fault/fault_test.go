package fault

import (
	"errors"
	"testing"
)

func TestWrappedFaultIsFound(t *testing.T) {
	err := In("outer", In("inner", At(Clock, 17)))
	var f Fault
	if !errors.As(err, &f) || f.Place != 17 {
		t.Errorf("errors.As gives %v, want the fault at 17", f)
	}
	for _, kind := range []error{Long, Syntax, Deep, Name, Type, Clock, Define, Cause, Limit} {
		if errors.Is(err, kind) != (kind == Clock) {
			t.Errorf("errors.Is(%v, %v) = %v", err, kind, errors.Is(err, kind))
		}
	}
	if want := "outer: inner: " + Clock.Error() + " at 17"; err.Error() != want {
		t.Errorf("text %q, want %q", err.Error(), want)
	}
}

func TestNothingStaysNothing(t *testing.T) {
	if err := In("pass", nil); err != nil {
		t.Errorf("In(nil) = %v", err)
	}
}
