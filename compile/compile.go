// Package compile: from a program in which nothing is wrong to its code.
//
// Every call is laid out where it stands, with cells of its own: the bound on
// what the main node remembers keeps their number small.
package compile

import (
	"slices"

	"cadence/code"
	"cadence/facts"
	"cadence/tree"
)

// Program compiles the main node and what it calls.
func Program(p *tree.Program) *code.Code {
	main := newCall(facts.ScopeOf(p, len(p.Nodes)-1), 0)
	w := writer{code: &code.Code{Outputs: main.Node.Outputs}}
	for _, v := range main.Node.Vars[:main.Node.Inputs] {
		w.code.Bools = append(w.code.Bools, v.Type == tree.Bool)
	}
	w.add(code.Push, 1)
	w.body(main)
	return w.code
}

// call is one of the calls of a node; of the main one there is one.
type call struct {
	facts.Scope
	clocks facts.Clocks
	base   int // the slot of the node's first variable
	later  []memory
}

// memory is a fby whose cell is still to be given what its next instant asks for.
type memory struct {
	cell  int64
	next  *tree.Expr
	clock facts.Clock
}

func newCall(s facts.Scope, base int) *call {
	return &call{Scope: s, clocks: facts.ClocksOf(s), base: base}
}

func (c *call) slot(variable int) int64 {
	return int64(c.base + variable)
}

func (c *call) slotOf(name tree.Name) int64 {
	return c.slot(c.Index(name))
}

// active is the slot, behind those of the variables, that tells whether this is
// an instant of the call.
func (c *call) active() int64 {
	return c.slot(len(c.Node.Vars))
}

// end is the first slot that the call leaves to those within it.
func (c *call) end() int {
	return c.base + len(c.Node.Vars) + 1
}

type writer struct {
	code *code.Code
}

func (w *writer) add(op code.Op, operand int64) {
	w.code.Row = append(w.code.Row, code.Instruction{Op: op, Operand: operand})
}

// body reckons an instant of a call, if what lies on the stack says that there
// is one.
func (w *writer) body(c *call) {
	w.code.Slots = max(w.code.Slots, c.end())
	w.add(code.Store, c.active())
	for _, q := range inOrder(c.Scope) {
		w.value(c, q.Right, c.clocks.Of(c.Index(q.Left[0])))
		for _, name := range slices.Backward(q.Left) {
			w.add(code.Store, c.slotOf(name))
		}
	}
	// A fby in what another one waits for comes behind it here, so that a cell
	// is changed only once it has been read.
	for len(c.later) > 0 {
		m := c.later[0]
		c.later = c.later[1:]
		w.whether(c, m.clock)
		w.value(c, m.next, m.clock)
		w.add(code.Keep, m.cell)
	}
}

// whether reckons if the clock says that this is one of its instants.
func (w *writer) whether(c *call, k facts.Clock) {
	if k.Sign == tree.Always {
		w.add(code.Load, c.active())
		return
	}
	w.whether(c, c.clocks[k])
	w.add(code.Load, c.slot(k.Variable))
	if k.Sign == tree.OnFalse {
		w.add(code.Not, 0)
	}
	w.add(code.And, 0)
}

// value reckons an expr on a clock; of a call it leaves all outputs.
func (w *writer) value(c *call, e *tree.Expr, k facts.Clock) {
	// What a fby remembers next may hang on what is not known yet.
	enter := func(e *tree.Expr, _ facts.Clock) bool { return e.Kind != tree.Fby }
	leave := func(e *tree.Expr, k facts.Clock) { w.finish(c, e, k) }
	c.clocks.Walk(c.Scope, e, k, enter, leave)
}

// operators has an op for each kind that is reckoned from its operands alone.
var operators = [...]code.Op{
	tree.If:     code.If,
	tree.Negate: code.Negate, tree.Not: code.Not,
	tree.And: code.And, tree.Or: code.Or, tree.Xor: code.Xor,
	tree.Equal: code.Equal, tree.Unequal: code.Unequal, tree.Less: code.Less, tree.LessEqual: code.LessEqual,
	tree.Add: code.Add, tree.Subtract: code.Subtract, tree.Multiply: code.Multiply, tree.Divide: code.Divide, tree.Remainder: code.Remainder,
}

// finish reckons an expr whose operands lie on the stack.
func (w *writer) finish(c *call, e *tree.Expr, k facts.Clock) {
	switch e.Kind {
	case tree.Number, tree.True, tree.False:
		w.add(code.Push, constant(e))
	case tree.Variable:
		w.add(code.Load, c.slotOf(e.Name))
	case tree.When, tree.Whenot:
		// It has what its operand has.
	case tree.Merge:
		w.add(code.Choose, c.slotOf(e.Name))
	case tree.Fby:
		w.remembered(c, e, k)
	case tree.Call:
		w.called(c, e, k)
	default:
		w.add(operators[e.Kind], 0)
	}
}

func (w *writer) remembered(c *call, e *tree.Expr, k facts.Clock) {
	cell := int64(len(w.code.Cells))
	w.code.Cells = append(w.code.Cells, constant(e.Args[0]))
	c.later = append(c.later, memory{cell: cell, next: e.Args[1], clock: k})
	w.add(code.Recall, cell)
}

// called lays out the node that is called. Its slots are free again behind it,
// since only cells go on to the next instant.
func (w *writer) called(c *call, e *tree.Expr, k facts.Clock) {
	s, _ := c.Called(e.Name)
	inner := newCall(s, c.end())
	for i := range slices.Backward(e.Args) {
		w.add(code.Store, inner.slot(i))
	}
	w.whether(c, k)
	w.body(inner)
	for i := range s.Node.Outputs {
		w.add(code.Load, inner.slot(s.Node.Inputs+i))
	}
}

// constant is what a number, true, false, or a number with a sign is worth.
func constant(e *tree.Expr) int64 {
	switch e.Kind {
	case tree.Number:
		return e.Value
	case tree.Negate:
		return -constant(e.Args[0])
	case tree.True:
		return 1
	}
	return 0
}
