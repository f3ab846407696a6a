package run

import (
	"errors"
	"slices"
	"testing"

	"cadence/code"
	"cadence/fault"
)

const (
	least = -1 << 63
	most  = 1<<63 - 1
)

func TestReckon(t *testing.T) {
	for _, c := range []struct {
		op         code.Op
		a, b, want int64
	}{
		{code.And, 1, 0, 0}, {code.And, 1, 1, 1}, {code.Or, 0, 1, 1}, {code.Or, 0, 0, 0}, {code.Xor, 1, 1, 0}, {code.Xor, 1, 0, 1},
		{code.Equal, 3, 3, 1}, {code.Equal, 3, 4, 0}, {code.Unequal, 3, 4, 1}, {code.Unequal, 4, 4, 0},
		{code.Less, least, most, 1}, {code.Less, 3, 3, 0}, {code.LessEqual, 3, 3, 1}, {code.LessEqual, most, least, 0},
		{code.Add, most, 1, least}, {code.Subtract, least, 1, most}, {code.Multiply, least, -1, least},
		{code.Divide, -7, 2, -3}, {code.Divide, 7, 0, 0}, {code.Divide, least, -1, least},
		{code.Remainder, -7, 2, -1}, {code.Remainder, 7, -2, 1}, {code.Remainder, 7, 0, 0}, {code.Remainder, least, -1, 0},
	} {
		if got := reckon(c.op, c.a, c.b); got != c.want {
			t.Errorf("op %d of %d and %d is %d, want %d", c.op, c.a, c.b, got, c.want)
		}
	}
}

// sum adds its input to what it remembers, if its second input says so.
func sum() *code.Code {
	return &code.Code{Bools: []bool{false, true}, Outputs: 1, Slots: 4, Cells: []int64{10}, Depth: 2, Row: []code.Instruction{
		{Op: code.Recall, Operand: 0}, {Op: code.Load, Operand: 0}, {Op: code.Add}, {Op: code.Store, Operand: 2},
		{Op: code.Load, Operand: 1}, {Op: code.Load, Operand: 2}, {Op: code.Keep, Operand: 0},
	}}
}

func TestStep(t *testing.T) {
	m := New(sum())
	for round := range 2 {
		for _, c := range [][3]int64{{1, 1, 11}, {2, 0, 13}, {3, 1, 14}, {0, 0, 14}} {
			if out, err := m.Step(c[:2]); err != nil || !slices.Equal(out, c[2:]) {
				t.Errorf("round %d: Step(%v) = %v, %v, want %d", round, c[:2], out, err, c[2])
			}
		}
		m.Reset()
	}
}

func TestStepTellsWhichInputIsWrong(t *testing.T) {
	m := New(sum())
	for _, c := range []struct {
		in    []int64
		place int
	}{{nil, 0}, {[]int64{1}, 1}, {[]int64{1, 1, 1}, 2}, {[]int64{1, 2}, 1}, {[]int64{2, -1}, 1}} {
		out, err := m.Step(c.in)
		var f fault.Fault
		if out != nil || !errors.Is(err, fault.Input) || !errors.As(err, &f) || f.Place != c.place {
			t.Errorf("Step(%v) = %v, %v, want a fault at %d", c.in, out, err, c.place)
		}
	}
}

func TestOnlyCellsGoOn(t *testing.T) {
	// The output is what is in a slot that is written only afterwards.
	m := New(&code.Code{Outputs: 1, Slots: 2, Depth: 1, Row: []code.Instruction{
		{Op: code.Load, Operand: 1}, {Op: code.Store, Operand: 0}, {Op: code.Push, Operand: 5}, {Op: code.Store, Operand: 1},
	}})
	for range 3 {
		if out, err := m.Step(nil); err != nil || !slices.Equal(out, []int64{0}) {
			t.Errorf("%v, %v", out, err)
		}
	}
}

func TestChoices(t *testing.T) {
	m := New(&code.Code{Bools: []bool{true}, Outputs: 4, Slots: 5, Depth: 3, Row: []code.Instruction{
		{Op: code.Load, Operand: 0}, {Op: code.Push, Operand: 7}, {Op: code.Push, Operand: 8}, {Op: code.If}, {Op: code.Store, Operand: 1},
		{Op: code.Push, Operand: 7}, {Op: code.Push, Operand: 8}, {Op: code.Choose, Operand: 0}, {Op: code.Store, Operand: 2},
		{Op: code.Load, Operand: 0}, {Op: code.Not}, {Op: code.Store, Operand: 3},
		{Op: code.Push, Operand: least}, {Op: code.Negate}, {Op: code.Store, Operand: 4},
	}})
	if out, err := m.Step([]int64{1}); err != nil || !slices.Equal(out, []int64{7, 7, 0, least}) {
		t.Errorf("of true: %v, %v", out, err)
	}
	if out, err := m.Step([]int64{0}); err != nil || !slices.Equal(out, []int64{8, 8, 1, least}) {
		t.Errorf("of false: %v, %v", out, err)
	}
}
